/-
  offertoryref01.Cells: whether two lists of numbers are the same.
-/
import Derived.Test.YtjbpnhibgafdmaaDoorProg
import Derived.Test.YtjbpnhibgafdmaaDoorMem
namespace Go.Proofs.YtjbpnhibgafdmaaDoor
open Go.RowKit
set_option linter.unusedVariables false
namespace R1

theorem take_step {xs ys : List Nat} {k x y : Nat} (h : xs.take k = ys.take k) (hx : xs[k]? = some x) (hy : ys[k]? = some y) (e : x = y) : xs.take (k + 1) = ys.take (k + 1) := by
  rw [List.take_add_one, List.take_add_one, h, hx, hy, e]

set_option maxHeartbeats 1000000 in
theorem Cells_any (n m : Nat) (xs ys : List Nat) (a b : Option Addr) (ca cb : Nat) (w : World) (hn : n ≤ 70368744177664)
    (hx : xs.length = n) (hy : ys.length = m) (rx : Rd w a (nums .u32 xs)) (ry : Rd w b (nums .u32 ys)) :
    Calls Tryd.prog 10 #[.slice a n ca, .slice b m cb] w fun e w' => e = .returned (.bool (decide (xs = ys))) ∧ Old w w' := by
  have HX := hide hx
  have HY := hide hy
  clear hx hy
  by_cases hnm : n = m
  · subst hnm
    go_enter Tryd.func10, Tryd.ntmps10
    go_wp2
    go_loopw [5] (fun i wr => ∃ k : Nat, k ≤ n ∧ i = .int .i64 k ∧ Hid (xs.take k = ys.take k) ∧ Old w wr) (fun i _ => n - (intOf i).toNat)
    case atStart => exact ⟨0, Nat.zero_le _, rfl, by show xs.take 0 = ys.take 0; simp, Old.refl _⟩
    case round =>
      obtain ⟨k, hk, rfl, H, hol⟩ := hrel
      by_cases hlt : k < n
      · obtain ⟨b1, o1, x, rfl, Hx, hcx⟩ := (rx.mono hol).num (i := k) (by have := HX.out; omega)
        obtain ⟨b2, o2, y, rfl, Hy, hcy⟩ := (ry.mono hol).num (i := k) (by have := HY.out; omega)
        have hki : (0 : Int) ≤ (k : Int) := by omega
        have hki2 : (k : Int) < (n : Int) := by omega
        by_cases hxy : x = y
        · subst hxy
          go_wp2_with fail
          go_quiet (fail)
          go_wp2
          go_roundw
          case rel => exact ⟨k + 1, by omega, by go_num, take_step H.out Hx.out Hy.out rfl, hol.drewN _⟩
          case measure => simp [intOf]; omega
        · have hd : ((x : Int) != (y : Int)) = true := by rw [bne_iff_ne]; omega
          have hd2 : ((x : Int) == (y : Int)) = false := by rw [beq_eq_false_iff_ne]; omega
          have hr : Hid (decide (xs = ys) = false) := by
            show decide _ = false
            rw [decide_eq_false_iff_not]
            intro h
            subst h
            have := Hx.out.symm.trans Hy.out
            simp at this
            exact hxy this
          go_wp2_with fail
          go_quiet (fail)
          go_wp2
          go_ret
          rw [hr.out]
          exact ⟨rfl, hol.drewN _⟩
      · have hr : Hid (decide (xs = ys) = true) := by
          show decide _ = true
          rw [decide_eq_true_iff]
          have := H.out
          have h1 := HX.out
          have h2 := HY.out
          rwa [List.take_of_length_le (by omega), List.take_of_length_le (by omega)] at this
        go_wp2
        go_ret
        rw [hr.out]
        exact ⟨rfl, hol⟩
  · have hd : ((n : Int) == (m : Int)) = false := by rw [beq_eq_false_iff_ne]; omega
    have hd2 : ((n : Int) != (m : Int)) = true := by rw [bne_iff_ne]; omega
    have hr : Hid (decide (xs = ys) = false) := by
      show decide _ = false
      rw [decide_eq_false_iff_not]
      intro h
      subst h
      have h1 := HX.out
      have h2 := HY.out
      omega
    go_enter Tryd.func10, Tryd.ntmps10
    go_wp2
    go_ret
    rw [hr.out]
    exact ⟨rfl, Old.refl _⟩
end R1
end Go.Proofs.YtjbpnhibgafdmaaDoor
