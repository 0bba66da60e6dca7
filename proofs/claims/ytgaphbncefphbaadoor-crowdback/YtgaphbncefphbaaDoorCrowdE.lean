/-
  The landed crowd: List; so its calls are what they owe.
-/
import Derived.Test.YtgaphbncefphbaaDoorCrowdD
import Derived.Test.YtgaphbncefphbaaDoorOwnI
import Derived.Laws.MakeOwn
namespace Go.Proofs.YtgaphbncefphbaaDoor
open Go.RowKit Pn Cr
set_option linter.unusedVariables false

namespace Cr
def zs (l : List Nat) : List Int := l.map Int.ofNat
theorem zs_snoc (l : List Nat) (k : Nat) : zs (l ++ [k + 1]) = zs l ++ [(k : Int) + 1] := by
  unfold zs
  rw [List.map_append]
  rfl
theorem zs_length (l : List Nat) : (zs l).length = l.length := by simp [zs]
end Cr

set_option maxRecDepth 100000 in
set_option maxHeartbeats 2000000 in
theorem list18_any (c : Nat) (hc : c < 18446744073709551616) (w : World) (T : Tab w) :
    Calls Tryd.prog 21 #[.int .u64 (c : Nat)] w fun e w' => ∃ a cap, e = .returned (.slice a (sizeC c) cap) ∧ sizeC c ≤ cap ∧ Rd w' a (ints (listZ c)) ∧ Old w w' := by
  have C0 := hide (size18_any c hc w)
  have hle := sizeC_le c
  obtain ⟨i0, h1, h2, h3, h4⟩ := info_parts (P := Tryd.prog) (e := 3) (show (Tryd.prog.info? 3).map (fun i => (i.zero, i.size, i.bytes)) = some (some (.int .i64 0), 1, 8) by kernel_rfl)
  obtain ⟨w1, hmk, own, gr⟩ := run_make_own (P := Tryd.prog) w w.heap.size 22 3 i0 (.int .i64 0) 1 Tryd.underlying22 h1 h2 h3 .i64 .i64 (sizeC c) (by rw [h4]; omega) (by unfold maxLen; omega) (Nat.le_refl _)
  have W0 : Hid (OwnsI w1 w.heap.size (.slice (some ⟨w.heap.size, 0, none⟩) 0 (sizeC c)) (zs []) ∧ Old w w1 ∧ listC c = [] ++ listC c) := ⟨own, Old.grownO (Old.refl w) gr (fun g e => by cases e), rfl⟩
  have HT := hide T
  have HC := hide hc
  clear h1 h2 h3 h4 own gr T hc i0
  have S1 := hide (show sizeC c = (listC c).length from rfl)
  generalize hm : sizeC c = m at *
  clear hm
  go_enter Tryd.func21, Tryd.ntmps21
  go_wp2_with fail
  refine C0.out.mono ?_
  rintro e w' ⟨rfl, rfl⟩
  go_wp2_with fail
  go_loopw [0, 3] (fun vs v wr => ∃ x : Nat, ∃ L : List Nat, vs = .int .u64 (x : Nat) ∧ x < 18446744073709551616 ∧ Hid (OwnsI wr w'.heap.size v (zs L) ∧ Old w' wr ∧ listC c = L ++ listC x)) (fun vs v _ => sizeC (intOf vs).toNat)
  case atStart => exact ⟨c, [], rfl, HC.out, W0⟩
  case round =>
    clear W0 hmk C0
    obtain ⟨x, L, rfl, hx, R⟩ := hrel
    by_cases h0 : x = 0
    · subst h0
      have R2 := R.out
      obtain ⟨ow, ol, el⟩ := R2
      rw [listC_none, List.append_nil] at el
      obtain ⟨a, cap, rfl, hcap, rd⟩ := ow.rd
      have e1 : zs L = listZ c := by rw [← el]; rfl
      rw [e1] at rd hcap
      have e2 : (listZ c).length = m := by rw [S1.out]; simp [listZ]
      rw [e1, e2]
      rw [e2] at hcap
      have RD := hide rd
      have OL := hide ol
      clear R el e1 e2 rd ol ow S1
      go_wp2
      go_ret
      exact ⟨a, cap, rfl, hcap, RD.out, OL.out⟩
    · have hxp : (x : Int) ≠ 0 := by omega
      have t0 : ((x : Int) != 0) = true := by rw [bne_iff_ne]; exact hxp
      have HX := hide hx
      have H0 := hide h0
      have HW := hide (HT.out.mono R.out.2.1)
      have C1 := hide (first18_any x h0 hx wr HW.out)
      have hrs := hide (rest_size h0 hx)
      have hfr := hide (first_rest h0 hx)
      obtain ⟨-, -, hk⟩ := ctz_of x h0 hx
      have C2 := hide (fun w2 => rest18_any x h0 hx w2)
      have hy : x &&& (x - 1) < 18446744073709551616 := Nat.lt_of_le_of_lt Nat.and_le_left hx
      clear hx h0 hxp
      revert C1 hfr hk C2 hrs hy
      generalize Lib.ctz 64 x = k
      generalize x &&& (x - 1) = y
      intro C1 hrs hfr hk C2 hy
      have OW := hide (R.out.1.mono (Old.of_alloc wr (.cells #[.int .i64 ((k : Int) + 1)] 3)))
      have O2 := hide (R.out.2.1.alloc (.cells #[.int .i64 ((k : Int) + 1)] 3))
      have HY : Hid ((wr.alloc (.cells #[.int .i64 ((k : Int) + 1)] 3)).cell? ⟨wr.heap.size, 0, none⟩ = some (.int .i64 ((k : Int) + 1))) := (Row.new wr 3 [.int .i64 ((k : Int) + 1)]).cell rfl
      have EL : Hid (listC c = (L ++ [k + 1]) ++ listC y) := by
        show _ = _
        have := R.out.2.2
        rw [hfr.out] at this
        rw [this, List.append_assoc]
        rfl
      have HN : Hid ((zs L).length < 1099511627776) := by
        show _ < _
        have := congrArg List.length EL.out
        rw [← S1.out, List.length_append, List.length_append] at this
        rw [zs_length]
        simp only [List.length_singleton] at this
        omega
      have HZ := hide O2.out.size
      go_wp2_with fail
      refine C1.out.mono ?_
      rintro e w2 ⟨rfl, rfl⟩
      clear C1
      go_wp2_with (refine wp_appendI rfl _ _ rfl w'.heap.size _ (zs L) rfl OW.out w2.heap.size 1 ((k : Int) + 1) rfl HY.out HN.out HZ.out ?_; rintro v2 w5 ow gr)
      have R2 : Hid (OwnsI w5 w'.heap.size v2 (zs (L ++ [k + 1])) ∧ Old w' w5 ∧ listC c = (L ++ [k + 1]) ++ listC y) := ⟨by rw [zs_snoc]; exact ow, Old.grownO O2.out gr (fun g e => (OW.out.lt e).1), EL.out⟩
      clear ow gr OW HY HN HZ O2 R EL HW
      refine (C2.out _).mono ?_
      rintro e w6 ⟨rfl, rfl⟩
      go_wp2
      go_roundw
      case rel => exact ⟨y, L ++ [k + 1], rfl, hy, R2⟩
      case measure =>
        have := hrs.out
        simp [intOf]
        omega

theorem listK18 (c : Nat) (hc : c < 18446744073709551616) (w : World) (T : Tab w) :
    Calls Tryd.prog 13 #[.int .u64 (c : Nat)] w fun e w' => ∃ a cap, e = .returned (.slice a (sizeC c) cap) ∧ sizeC c ≤ cap ∧ Rd w' a (ints (listZ c)) ∧ Old w w' := by
  have C := hide (list18_any c hc w T)
  generalize sizeC c = m at *
  generalize listZ c = l at *
  go_enter Tryd.func13, Tryd.ntmps13
  go_wp2_with fail
  refine C.out.mono ?_
  rintro e w' ⟨a, cap, rfl, h, rd, ol⟩
  go_wp2
  go_ret
  exact ⟨a, cap, rfl, h, rd, ol⟩

theorem crowdK : CrowdK := ⟨ofK18, listK18, hasK18, sizeK18, withinK18, allK18⟩
end Go.Proofs.YtgaphbncefphbaaDoor
