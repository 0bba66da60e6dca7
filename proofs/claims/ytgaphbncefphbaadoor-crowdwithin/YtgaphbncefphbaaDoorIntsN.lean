/-
  offertoryref01.Ints: what it answers (cut out of RefBin).
-/
import Derived.Test.YtgaphbncefphbaaDoorProg
import Derived.Test.YtgaphbncefphbaaDoorPlanN
namespace Go.Proofs.YtgaphbncefphbaaDoor
open Go.RowKit Pn
set_option linter.unusedVariables false

theorem take_stepI {xs ys : List Int} {k : Nat} (h : xs.take k = ys.take k) (hx : k < xs.length) (hy : k < ys.length) (e : xs.getD k 0 = ys.getD k 0) : xs.take (k + 1) = ys.take (k + 1) := by
  rw [List.take_add_one, List.take_add_one, h]
  congr 1
  simp [List.getD, hx, hy] at e
  simp [hx, hy, e]

set_option maxHeartbeats 1000000 in
theorem Ints_any (n m : Nat) (xs ys : List Int) (a b : Option Addr) (ca cb : Nat) (w : World) (hn : n ≤ 9223372036854775807)
    (hx : xs.length = n) (hy : ys.length = m) (rx : Rd w a (ints xs)) (ry : Rd w b (ints ys)) :
    Calls Tryd.prog 12 #[.slice a n ca, .slice b m cb] w fun e w' => e = .returned (.bool (decide (xs = ys))) ∧ Old w w' := by
  have HX := hide hx
  have HY := hide hy
  have HN := hide hn
  clear hx hy hn
  by_cases hnm : n = m
  · subst hnm
    go_enter Tryd.func12, Tryd.ntmps12
    go_wp2
    go_loopw [5] (fun i wr => ∃ k : Nat, k ≤ n ∧ i = .int .i64 k ∧ Hid (xs.take k = ys.take k) ∧ Old w wr) (fun i _ => n - (intOf i).toNat)
    case atStart => exact ⟨0, Nat.zero_le _, rfl, by show xs.take 0 = ys.take 0; simp, Old.refl _⟩
    case round =>
      obtain ⟨k, hk, rfl, H, hol⟩ := hrel
      by_cases hlt : k < n
      · have l1 := hide (show k < xs.length by have := HX.out; omega)
        have l2 := hide (show k < ys.length by have := HY.out; omega)
        obtain ⟨b1, o1, rfl, hcx⟩ := rd_int (rx.mono hol) l1.out
        obtain ⟨b2, o2, rfl, hcy⟩ := rd_int (ry.mono hol) l2.out
        have hki : (0 : Int) ≤ (k : Int) := by omega
        have hki2 : (k : Int) < (n : Int) := by omega
        have hki3 : (k : Int) + 1 ≤ 9223372036854775807 := by have := HN.out; omega
        have ST := hide (fun e => take_stepI H.out l1.out l2.out e)
        have NO := hide (show xs.getD k 0 ≠ ys.getD k 0 → xs ≠ ys from fun h e => h (by rw [e]))
        clear l1 l2
        revert hcx hcy ST NO
        generalize xs.getD k 0 = x
        generalize ys.getD k 0 = y
        intro hcx hcy ST NO
        by_cases hxy : x = y
        · subst hxy
          have ST1 := hide (ST.out rfl)
          clear ST NO
          go_wp2_with fail
          go_quiet (fail)
          go_wp2
          go_roundw
          case rel => exact ⟨k + 1, by omega, by go_num, ST1.out, hol.drewN _⟩
          case measure => simp [intOf]; omega
        · have hd : (x != y) = true := by rw [bne_iff_ne]; exact hxy
          have hd2 : (x == y) = false := by rw [beq_eq_false_iff_ne]; exact hxy
          have hr : Hid (decide (xs = ys) = false) := by
            show decide _ = false
            rw [decide_eq_false_iff_not]
            exact NO.out hxy
          go_wp2_with fail
          go_quiet (fail)
          go_wp2
          go_ret
          rw [hr.out]
          exact ⟨rfl, hol.drewN _⟩
      · have hr : Hid (decide (xs = ys) = true) := by
          show decide _ = true
          rw [decide_eq_true_iff]
          have := H.out
          have h1 := HX.out
          have h2 := HY.out
          rwa [List.take_of_length_le (by omega), List.take_of_length_le (by omega)] at this
        go_wp2
        go_ret
        rw [hr.out]
        exact ⟨rfl, hol⟩
  · have hd : ((n : Int) == (m : Int)) = false := by rw [beq_eq_false_iff_ne]; omega
    have hd2 : ((n : Int) != (m : Int)) = true := by rw [bne_iff_ne]; omega
    have hr : Hid (decide (xs = ys) = false) := by
      show decide _ = false
      rw [decide_eq_false_iff_not]
      intro h
      subst h
      have h1 := HX.out
      have h2 := HY.out
      omega
    go_enter Tryd.func12, Tryd.ntmps12
    go_wp2
    go_ret
    rw [hr.out]
    exact ⟨rfl, Old.refl _⟩
end Go.Proofs.YtgaphbncefphbaaDoor
