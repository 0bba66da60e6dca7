/-
  Layer 10 as it landed: what clamp's Bits answers, for any plan.
-/
import Derived.Test.YthaaajepolahfaaClampE
import Derived.Test.YthaaajepolahfaaShelf10
namespace Go.Proofs.Ythaaajepolahfaa
open Go.RowKit Pn
set_option linter.unusedVariables false

namespace Pn
theorem bitLen_bits (d : Nat) (h : d < 18446744073709551616) (h0 : d ≠ 0) : Lib.bitLen d = bitsN d := by
  have key : ∀ k d : Nat, d < 2 ^ k → k ≤ 64 → d ≠ 0 → Lib.bitLen d = d.log2 + 1 := by
    intro k
    induction k with
    | zero => intro d h1 _ h2; simp at h1; exact absurd h1 h2
    | succ k ih =>
      intro d h1 hk h2
      have hd : d < 2 ^ 64 := Nat.lt_of_lt_of_le h1 (Nat.pow_le_pow_right (by omega) hk)
      rw [Lib.bitLen_half d h2 hd]
      by_cases h3 : d / 2 = 0
      · have : d = 1 := by omega
        subst this
        decide
      · rw [ih (d / 2) (by rw [Nat.pow_succ] at h1; omega) (by omega) h3]
        have : d.log2 = (d / 2).log2 + 1 := by
          rw [Nat.log2_def d, if_pos (by omega)]
        omega
  exact key 64 d h (by omega) h0
end Pn

theorem len64_any (d : Nat) (h : d < 1099511627776) (w : World) : Calls Try.prog 63 #[.int .u64 (d : Nat)] w fun e w' => e = .returned (.int .i64 (Lib.bitLen d : Nat)) ∧ w' = w := by
  have := Any.bits_Len64 len64Lays10 d w (by omega) (by omega)
  rw [Int.toNat_natCast] at this
  exact this

set_option maxHeartbeats 1000000 in
theorem bits10 : BitsC10 := by
  intro lo hi mo a n cap es w F
  have B0 := hide (Bz.start cap F)
  have X := hide (fun w F => soundM_any (lo := lo) (hi := hi) (mo := mo) (a := a) (n := n) (es := es) cap w F)
  have Y := hide (fun w h1 h2 h3 => width_any (lo := lo) (hi := hi) (mo := mo) (a := a) (n := n) cap w h1 h2 h3)
  have NB := hide (bad1_no (lo := lo) (hi := hi) (mo := mo) (es := es))
  unfold pv at *
  clear F
  revert X NB
  generalize soundZ lo hi mo es = s
  intro X NB
  go_enter Try.func46, Try.ntmps46
  go_wp2_with fail
  refine (X.out _ B0.out.fit).mono ?_
  rintro e w1 ⟨rfl, o1⟩
  have B1 := hide (B0.out.mono o1)
  clear B0 o1 X
  by_cases hs : s = 0
  · subst hs
    have hl := hide (NB.out rfl)
    obtain ⟨d, hd⟩ : ∃ d : Nat, hi - lo = d := ⟨(hi - lo).toNat, by have := hl.out; omega⟩
    have Z := hide (len64_any d (by have := hl.out; omega))
    have E : Hid (bitsS 0 lo hi = max 1 ((Lib.bitLen d : Nat) : Int)) := by
      show (if (0 : Int) = 0 then ((bitsN (hi - lo).toNat : Nat) : Int) else 0) = _
      rw [if_pos rfl, hd, Int.toNat_natCast]
      by_cases h0 : d = 0
      · subst h0
        decide
      · rw [bitLen_bits d (by have := hl.out; omega) h0]
        have : 1 ≤ bitsN d := by unfold bitsN; omega
        omega
    have W := hide (fun w => Y.out w hl.out.2.1 hl.out.1 hl.out.2.2.1)
    rw [hd] at W
    have c0 := B1.out.c0
    have c1 := B1.out.c1
    have c2 := B1.out.c2
    have c3 := B1.out.c3
    clear hd Y NB
    revert Z E
    generalize Lib.bitLen d = q
    intro Z E
    go_wp2_with fail
    refine (W.out _).mono ?_
    rintro e w2 ⟨rfl, o2⟩
    have O := hide (B1.out.old.trans o2)
    clear B1 o2 c0 c1 c2 c3
    go_wp2_with fail
    refine (Z.out _).mono ?_
    rintro e w3 ⟨rfl, rfl⟩
    go_wp2
    go_ret2
    exact ⟨by rw [E.out]; rfl, O.out⟩
  · have E : bitsS s lo hi = 0 := by unfold bitsS; rw [if_neg hs]
    have E := hide E
    have t : (s != 0) = true := by simpa using hs
    have O := B1.out.old
    clear B1 hs NB Y
    go_wp2
    go_ret2
    exact ⟨by rw [E.out]; rfl, O⟩
end Go.Proofs.Ythaaajepolahfaa
