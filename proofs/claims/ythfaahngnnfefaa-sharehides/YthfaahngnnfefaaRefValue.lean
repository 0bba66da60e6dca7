/-
  The document's value through points (offertoryref06.Value): each point's polynomial by all others.
-/
import Derived.Test.YthfaahngnnfefaaRefPoints
namespace Go.Proofs.Ythfaahngnnfefaa
open Go.RowKit M Pm
set_option linter.unusedVariables false

def ptX (ps : List Pt) (i : Nat) : Fp := F (at1 ps i).toNat
def ptY (ps : List Pt) (i : Nat) : Fp := F (at2 ps i)
def partN (ps : List Pt) (i x k : Nat) : Nat := (lpart (ptX ps) (ptY ps) i (F x) k).val
def lagN (ps : List Pt) (x i : Nat) : Nat := (lag (ptX ps) (ptY ps) ps.length (F x) i).val
theorem partN_lt (ps : List Pt) (i x k : Nat) : partN ps i x k < 2305843009213693951 := (lpart (ptX ps) (ptY ps) i (F x) k).isLt
theorem lagN_lt (ps : List Pt) (x i : Nat) : lagN ps x i < 2305843009213693951 := (lag (ptX ps) (ptY ps) ps.length (F x) i).isLt
theorem F_invP {a : Nat} (h : a < 2305843009213693951) : F (invP a) = inv (F a) := by
  unfold inv
  rw [F_val, Nat.mod_eq_of_lt h]
theorem partN_zero (ps : List Pt) (i x : Nat) (h : at2 ps i < 2305843009213693951) : partN ps i x 0 = at2 ps i := by
  show (F (at2 ps i)).val = _
  rw [F_val, Nat.mod_eq_of_lt h]
theorem partN_own (ps : List Pt) (i x : Nat) : partN ps i x (i + 1) = partN ps i x i := by
  unfold partN
  rw [lpart, if_pos rfl]
theorem partN_step (ps : List Pt) {i k : Nat} (x : Nat) (h : k ≠ i) : mulP (mulP (partN ps i x k) (subP x (at1 ps k).toNat)) (invP (subP (at1 ps i).toNat (at1 ps k).toNat)) = partN ps i x (k + 1) := by
  rw [mulP_val, F_mulP, F_subP, F_invP (subP_lt _ _), F_subP]
  unfold partN
  rw [F_surj, lpart, if_neg h]
  rfl
theorem lagN_zero (ps : List Pt) (x : Nat) : lagN ps x 0 = 0 := rfl
theorem lagN_step (ps : List Pt) (x i : Nat) : addP (lagN ps x i) (partN ps i x ps.length) = lagN ps x (i + 1) := by
  rw [addP_val]
  unfold lagN partN
  rw [F_surj, F_surj, lag]
theorem apart_X {ps : List Pt} (S : SoundP ps) : ∀ a b, a < ps.length → b < ps.length → a ≠ b → ptX ps a ≠ ptX ps b := by
  intro a b ha hb hab e
  have h1 := S.inr a ha
  have h2 := S.inr b hb
  have := F_inj (by omega) (by omega) e
  exact S.apart a b ha hb hab (by omega)

set_option maxHeartbeats 2000000 in
theorem refValue_any (ps : List Pt) (n x : Nat) (a : Option Addr) (cap : Nat) (w : World) (hl : ps.length = n) (S : SoundP ps) (hx : x < 18446744073709551616) (rd : Pts w a ps) :
    Calls Try.prog 16 #[.slice a n cap, .int .u64 (x : Nat)] w fun e w' => e = .returned (.int .u64 (lagN ps x n : Nat)) ∧ Old w w' := by
  have HL := hide hl
  have hn : n ≤ 64 := by have := S.le; omega
  have HS := hide S
  clear hl S
  go_enter Try.func16, Try.ntmps16
  go_wp2_with fail
  go_loopw [5, 6] (fun vo vi wr => ∃ i : Nat, i ≤ n ∧ vi = .int .i64 (i : Nat) ∧ vo = .int .u64 (lagN ps x i : Nat) ∧ Old w wr) (fun _ vi _ => (n - intOf vi).toNat)
  case atStart => exact ⟨0, by omega, rfl, rfl, Old.refl _⟩
  case round =>
    obtain ⟨i, hi, rfl, rfl, hol⟩ := hrel
    by_cases hin : i = n
    · subst hin
      go_wp2
      go_ret
      exact ⟨rfl, hol⟩
    · have hil : i < n := by omega
      obtain ⟨b, off, z, v, rfl, Hp, hc1, hc2⟩ := (rd.mono hol).at (i := i) (by rw [HL.out]; exact hil)
      have hii : (0 : Int) ≤ i := by omega
      have hii2 : (i : Int) < n := by omega
      have AT := hide (at_of Hp.out)
      have IR := HS.out.inr i (by rw [HL.out]; exact hil)
      rw [AT.out.1, AT.out.2] at IR
      obtain ⟨zi, rfl⟩ : ∃ zi : Nat, z = zi := ⟨z.toNat, by omega⟩
      obtain ⟨i1, i2, i3⟩ := IR
      have P0 : Hid (partN ps i x 0 = v) := by show _ = _; rw [partN_zero ps i x (by rw [AT.out.2]; exact i3), AT.out.2]
      have lo := lagN_lt ps x i
      go_wp2_with fail
      go_loopw [7, 8] (fun vp vk wr' => ∃ k : Nat, k ≤ n ∧ vk = .int .i64 (k : Nat) ∧ vp = .int .u64 (partN ps i x k : Nat) ∧ Old wr wr') (fun _ vk _ => (n - intOf vk).toNat)
      case atStart => exact ⟨0, by omega, rfl, by rw [P0.out], Old.refl _⟩
      case round =>
        clear P0
        obtain ⟨k, hk, rfl, rfl, hol2⟩ := hrel
        have d1 := (World.cell?_of_block (hol2.block b (World.block_lt_of_cell? _ _ hc1))).trans hc1
        have lp := partN_lt ps i x k
        by_cases hkn : k = n
        · subst hkn
          have hd : decide ((k : Int) < k) = false := decide_eq_false (by omega)
          go_wp2_with fail
          refine (R1.Add_any (lagN ps x i) (partN ps i x k) (by omega) (by omega) _).mono ?_
          rintro e w' ⟨rfl, rfl⟩
          go_wp2
          go_roundw
          case rel =>
            refine ⟨i + 1, by omega, by go_num, ?_, hol.trans hol2⟩
            rw [← lagN_step, HL.out]
          case measure => simp [intOf]; omega
        · have hkl : k < n := by omega
          by_cases hki : k = i
          · subst hki
            have hne : ((k : Int) != (k : Int)) = false := by simp
            go_wp2
            go_roundw
            case rel => exact ⟨k + 1, by omega, by go_num, by rw [partN_own], hol2⟩
            case measure => simp [intOf]; omega
          · have hne : ((k : Int) != (i : Int)) = true := by rw [bne_iff_ne]; omega
            obtain ⟨b', off', z', v', ha, Hq, g1, g2⟩ := ((rd.mono hol).mono hol2).at (i := k) (by rw [HL.out]; omega)
            obtain ⟨rfl, rfl⟩ : b = b' ∧ off = off' := by simpa using ha
            have hkk : (0 : Int) ≤ k := by omega
            have hkk3 : (k : Int) < n := by omega
            have AQ := hide (at_of Hq.out)
            have IQ := HS.out.inr k (by rw [HL.out]; exact hkl)
            rw [AQ.out.1, AQ.out.2] at IQ
            obtain ⟨zk, rfl⟩ : ∃ zk : Nat, z' = zk := ⟨z'.toNat, by omega⟩
            obtain ⟨j1, j2, j3⟩ := IQ
            have hzz : zi ≠ zk := by
              have := HS.out.apart i k (by rw [HL.out]; exact hil) (by rw [HL.out]; exact hkl) (Ne.symm hki)
              rw [AT.out.1, AQ.out.1] at this
              omega
            have PS : Hid (mulP (mulP (partN ps i x k) (subP x zk)) (invP (subP zi zk)) = partN ps i x (k + 1)) := by
              have := partN_step ps x hki
              rw [AT.out.1, AQ.out.1] at this
              exact this
            have s1 := subP_lt x zk
            have s2 := subP_lt zi zk
            have s3 : Hid (subP zi zk % 2305843009213693951 ≠ 0) := by show _ ≠ _; unfold subP; omega
            have m1 := mulP_lt (partN ps i x k) (subP x zk)
            have m2 := invP_lt (subP zi zk)
            go_wp2_with fail
            refine (R1.Sub_any x zk hx (by omega) _).mono ?_
            rintro e w' ⟨rfl, rfl⟩
            go_wp2_with fail
            refine (R1.Mul_any (partN ps i x k) (subP x zk) (by omega) (by omega) _).mono ?_
            rintro e w' ⟨rfl, rfl⟩
            go_wp2_with fail
            go_quiet (first
              | exact Calls.quiet_of_same (R1.Sub_any zi zk (by omega) (by omega) _)
              | exact Calls.quiet_of_same (R1.Inv_any (subP zi zk) (by omega) s3.out _)
              | exact Calls.quiet_of_same (R1.Mul_any (mulP (partN ps i x k) (subP x zk)) (invP (subP zi zk)) (by omega) (by omega) _))
            go_wp2
            go_roundw
            case rel => exact ⟨k + 1, by omega, by go_num, by rw [← PS.out], hol2.drewN _⟩
            case measure => simp [intOf]; omega
end Go.Proofs.Ythfaahngnnfefaa
