/-
  The walks of layer 9's statements WideProducts, WideShifts, WideTexts, WideParts, if the layer's calls are what they owe.
-/
import Derived.Test.YtindmmipncclbaaDoorWideC
import Derived.Test.YtindmmipncclbaaDoorCalm
import Derived.Test.YtindmmipncclbaaDoorOpen
namespace Go.Proofs.YtindmmipncclbaaDoor
open Go.RowKit Wd
set_option linter.unusedVariables false

/-- A number of 128 bits. -/
def IsWide (v : Value) : Prop := ∃ x : Nat, x < M ∧ v = wv x
theorem isU64w {v : Value} (h : IsInt .u64 v) : ∃ n : Nat, n < 18446744073709551616 ∧ v = .int .u64 (n : Int) := by
  obtain ⟨n, rfl, hw⟩ := h
  have := bounds_u64 hw
  exact ⟨n.toNat, by omega, by rw [Int.toNat_of_nonneg (by omega)]⟩
theorem isI64w {v : Value} (h : IsInt .i64 v) : ∃ n : Int, (-9223372036854775808 ≤ n ∧ n ≤ 9223372036854775807) ∧ v = .int .i64 n := by
  obtain ⟨n, rfl, hw⟩ := h
  have := bounds_i64 hw
  exact ⟨n, by omega, rfl⟩
theorem isU8w {v : Value} (h : IsInt .u8 v) : ∃ n : Nat, n < 256 ∧ v = .int .u8 (n : Int) := by
  obtain ⟨n, rfl, hw⟩ := h
  have := bounds_u8 hw
  exact ⟨n.toNat, by omega, by rw [Int.toNat_of_nonneg (by omega)]⟩
theorem wv_low {a : Nat} (ha : a < 18446744073709551616) : wv a = .agg #[.int .u64 0, .int .u64 (a : Nat)] := by
  unfold wv
  rw [show hi a = 0 by unfold hi; omega, show lo a = a by unfold lo; omega]
  rfl

set_option maxHeartbeats 2000000 in
theorem walkK_WideProducts (K : WideK) (v0 v1 : Value) (w : World) (w0 : IsInt .u64 v0) (w1 : IsInt .u64 v1) (T : Tab9 w) :
    Calls Tryd.prog 4 #[v0, v1] w fun e w' => e = .returned (.bool true) ∧ Old w w' := by
  obtain ⟨a, ha, rfl⟩ := isU64w w0
  obtain ⟨b, hb, rfl⟩ := isU64w w1
  have C0 := hide (fun w' (o : Old w w') => awake9 K w' (T.mono o))
  have C1 := hide (K.mul a b ha hb)
  have C2 := hide (fun w => refOf9_any a w)
  have C3 := hide (fun w => refOf9_any b w)
  have C4 := hide (fun w => refMul9_any a b w)
  have C5 := hide (fun w => refWide9_any (a * b) w)
  rw [wv_low ha] at C2
  rw [wv_low hb] at C3
  clear K T ha hb w0 w1
  unfold wv at C1 C5
  revert C1 C2 C3 C4 C5
  generalize bv a = ba
  generalize bv b = bb
  generalize bv (a * b) = bc
  generalize hi (a * b) = p
  generalize lo (a * b) = q
  intro C1 C2 C3 C4 C5
  go_enter Tryd.func4, Tryd.ntmps4
  go_wp2_with fail
  refine (C0.out _ (Old.refl _)).mono ?_
  rintro e w1 ⟨rfl, o1⟩
  go_wp2_with fail
  refine (C1.out _).mono ?_
  rintro e w2 ⟨rfl, o2⟩
  go_wp2_with fail
  refine (C2.out _).mono ?_
  rintro e w3 ⟨rfl, o3⟩
  go_wp2_with fail
  refine (C3.out _).mono ?_
  rintro e w4 ⟨rfl, o4⟩
  go_wp2_with fail
  refine (C4.out _).mono ?_
  rintro e w5 ⟨rfl, o5⟩
  go_wp2_with fail
  refine (C5.out _).mono ?_
  rintro e w6 ⟨rfl, o6⟩
  have O6 := ((((o1.trans o2).trans o3).trans o4).trans o5).trans o6
  clear o1 o2 o3 o4 o5 o6
  go_wp2
  go_ret
  exact ⟨by simp, O6⟩

set_option maxHeartbeats 2000000 in
theorem walkK_WideShifts (K : WideK) (v0 v1 : Value) (w : World) (w0 : IsWide v0) (w1 : IsInt .i64 v1) (T : Tab9 w) :
    Calls Tryd.prog 5 #[v0, v1] w fun e w' => e = .returned (.bool true) ∧ Old w w' := by
  obtain ⟨x, hx, rfl⟩ := w0
  obtain ⟨n, hn, rfl⟩ := isI64w w1
  have C0 := hide (fun w' (o : Old w w') => awake9 K w' (T.mono o))
  have C1 := hide (K.shift' x n hn.1 hn.2)
  have C2 := hide (fun w => refOf9_any x w)
  have C3 := hide (fun w => refShift9_any x n hn.1 hn.2 w)
  have C4 := hide (fun w => refWide9_any (x * 2 ^ times n) w)
  clear K T hx hn w1
  unfold wv at C1 C2 C4 ⊢
  revert C1 C2 C3 C4
  generalize bv x = ba
  generalize bv (x * 2 ^ times n) = bc
  generalize hi (x * 2 ^ times n) = p
  generalize lo (x * 2 ^ times n) = q
  generalize hi x = h
  generalize lo x = l
  intro C1 C2 C3 C4
  go_enter Tryd.func5, Tryd.ntmps5
  go_wp2_with fail
  have R0 := Row.new w 24 [.int .u64 (h : Nat), .int .u64 (l : Nat)]
  have O0 := Old.of_alloc w (.cells #[.int .u64 (h : Nat), .int .u64 (l : Nat)] 24)
  have ne : Nonempty (After (w.alloc (.cells #[.int .u64 (h : Nat), .int .u64 (l : Nat)] 24))) := ⟨⟨_, Old.refl _⟩⟩
  have a0 : ∀ y : After (w.alloc (.cells #[.int .u64 (h : Nat), .int .u64 (l : Nat)] 24)), y.to.cell? ⟨w.heap.size, 0, none⟩ = some (.int .u64 (h : Nat)) := fun y => y.cell (R0.cell (i := 0) rfl)
  have a1 : ∀ y : After (w.alloc (.cells #[.int .u64 (h : Nat), .int .u64 (l : Nat)] 24)), y.to.cell? ⟨w.heap.size, 1, none⟩ = some (.int .u64 (l : Nat)) := fun y => y.cell (R0.cell (i := 1) rfl)
  clear R0
  refine wp_region_calm (by kernel_rfl) (by kernel_rfl) ?_
  repeat (go_big_quiet_step (first | with_reducible exact calm_of (C0.out _ (O0.trans (After.old _))) | with_reducible exact calm_of (C1.out _) | with_reducible exact calm_of (C2.out _) | with_reducible exact calm_of (C3.out _) | with_reducible exact calm_of (C4.out _)))
  refine wpQuiet_nil ?_
  rintro _ ⟨⟨w3, o3⟩, rfl⟩
  go_wp2
  go_ret
  exact ⟨by simp, O0.trans o3⟩
end Go.Proofs.YtindmmipncclbaaDoor
