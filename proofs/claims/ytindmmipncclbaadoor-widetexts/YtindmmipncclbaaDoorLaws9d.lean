/-
  The walks of layer 9's statements WideTexts, WideParts, if the layer's calls are what they owe.
-/
import Derived.Test.YtindmmipncclbaaDoorLaws9
namespace Go.Proofs.YtindmmipncclbaaDoor
open Go.RowKit Wd
set_option linter.unusedVariables false

set_option maxHeartbeats 2000000 in
theorem walkK_WideTexts (K : WideK) (v0 : Value) (w : World) (w0 : IsWide v0) (T : Tab9 w) :
    Calls Tryd.prog 7 #[v0] w fun e w' => e = .returned (.bool true) ∧ Old w w' := by
  obtain ⟨x, hx, rfl⟩ := w0
  have C0 := hide (fun w' (o : Old w w') => awake9 K w' (T.mono o))
  have C1 := hide (fun w' (o : Old w w') => K.text x hx w' (T.mono o))
  have C2 := hide (fun w => refOf9_any x w)
  have C3 := hide (fun w => refText9_any x hx w)
  clear K T hx
  unfold wv at C1 C2 ⊢
  revert C1 C2 C3
  generalize bv x = ba
  generalize Ssb.bstr (decL x) = s
  generalize hi x = h
  generalize lo x = l
  intro C1 C2 C3
  go_enter Tryd.func7, Tryd.ntmps7
  go_wp2_with fail
  have R0 := Row.new w 24 [.int .u64 (h : Nat), .int .u64 (l : Nat)]
  have O0 := Old.of_alloc w (.cells #[.int .u64 (h : Nat), .int .u64 (l : Nat)] 24)
  have ne : Nonempty (After (w.alloc (.cells #[.int .u64 (h : Nat), .int .u64 (l : Nat)] 24))) := ⟨⟨_, Old.refl _⟩⟩
  have a0 : ∀ y : After (w.alloc (.cells #[.int .u64 (h : Nat), .int .u64 (l : Nat)] 24)), y.to.cell? ⟨w.heap.size, 0, none⟩ = some (.int .u64 (h : Nat)) := fun y => y.cell (R0.cell (i := 0) rfl)
  have a1 : ∀ y : After (w.alloc (.cells #[.int .u64 (h : Nat), .int .u64 (l : Nat)] 24)), y.to.cell? ⟨w.heap.size, 1, none⟩ = some (.int .u64 (l : Nat)) := fun y => y.cell (R0.cell (i := 1) rfl)
  clear R0
  refine wp_region_calm (by kernel_rfl) (by kernel_rfl) ?_
  repeat (go_big_quiet_step (first | with_reducible exact calm_of (C0.out _ (O0.trans (After.old _))) | with_reducible exact calm_of (C1.out _ (O0.trans (After.old _))) | with_reducible exact calm_of (C2.out _) | with_reducible exact calm_of (C3.out _)))
  refine wpQuiet_nil ?_
  rintro _ ⟨⟨w3, o3⟩, rfl⟩
  go_wp2
  go_ret
  exact ⟨by simp, O0.trans o3⟩

theorem tmod64 (n : Nat) : Int.tmod (n : Int) 64 = ((n % 64 : Nat) : Int) := by
  rw [Int.tmod_eq_emod_of_nonneg (by omega)]; omega
theorem times_nat {k : Nat} (hk : k ≤ 128) : times (k : Int) = k := by unfold times; omega

set_option maxHeartbeats 4000000 in
theorem walkK_WideParts (K : WideK) (v0 v1 v2 v3 : Value) (w : World) (w0 : IsWide v0) (w1 : IsWide v1) (w2 : IsWide v2) (w3 : IsInt .u8 v3) (T : Tab9 w) :
    Calls Tryd.prog 8 #[v0, v1, v2, v3] w fun e w' => e = .returned (.bool true) ∧ Old w w' := by
  obtain ⟨x, hx, rfl⟩ := w0
  obtain ⟨y, hy, rfl⟩ := w1
  obtain ⟨z, hz, rfl⟩ := w2
  obtain ⟨n, hn, rfl⟩ := isU8w w3
  have M64 := tmod64 n
  have hk : n % 64 < 64 := Nat.mod_lt _ (by omega)
  have C0 := hide (fun w' (o : Old w w') => awake9 K w' (T.mono o))
  have C1 := hide (fun w => K.add' x y w)
  have C2 := hide (fun w => K.add' (x + y) z w)
  have C3 := hide (fun w => K.add' y z w)
  have C4 : Hid (∀ w, Calls Tryd.prog 12 #[wv x, wv (y + z)] w fun e w' => e = .returned (wv (x + y + z)) ∧ Old w w') := fun w => by
    have := K.add' x (y + z) w
    rw [← Nat.add_assoc] at this
    exact this
  have C5 : Hid (∀ w, Calls Tryd.prog 15 #[wv (x + y), wv y] w fun e w' => e = .returned (wv x) ∧ Old w w') := fun w => by
    have := K.sub' (x + y) y hy w
    rw [show x + y + (M - y) = x + M by omega, wv_eq (show (x + M) % M = x % M by simp)] at this
    exact this
  have C6 := hide (fun w => K.shift' x (n % 64 : Nat) (by omega) (by omega) w)
  have C7 : Hid (∀ w, Calls Tryd.prog 20 #[wv (x * 2 ^ times (n % 64 : Nat)), .int .i64 (n % 64 : Nat)] w fun e w' => e = .returned (wv (x * 2 ^ (n % 64 + n % 64))) ∧ Old w w') := fun w => by
    have := K.shift' (x * 2 ^ times (n % 64 : Nat)) (n % 64 : Nat) (by omega) (by omega) w
    rw [times_nat (k := n % 64) (by omega), Nat.mul_assoc, ← Nat.pow_add] at this
    rw [times_nat (k := n % 64) (by omega)]
    exact this
  have C8 : Hid (∀ w, Calls Tryd.prog 20 #[wv x, .int .i64 (2 * ((n % 64 : Nat) : Int))] w fun e w' => e = .returned (wv (x * 2 ^ (n % 64 + n % 64))) ∧ Old w w') := fun w => by
    have := K.shift' x ((n % 64 + n % 64 : Nat) : Int) (by omega) (by omega) w
    rw [times_nat (k := n % 64 + n % 64) (by omega)] at this
    rw [show 2 * ((n % 64 : Nat) : Int) = ((n % 64 + n % 64 : Nat) : Int) by omega]
    exact this
  have pk : 2 ^ (n % 64) < 18446744073709551616 := by
    have := Nat.pow_lt_pow_right (a := 2) (by omega) hk
    exact this
  have C9 := hide (K.mul (lo x) (2 ^ (n % 64)) (lo_lt x) pk)
  have CA : Hid (∀ w, Calls Tryd.prog 20 #[.agg #[.int .u64 0, .int .u64 (lo x : Nat)], .int .i64 (n % 64 : Nat)] w fun e w' => e = .returned (wv (lo x * 2 ^ (n % 64))) ∧ Old w w') := fun w => by
    have := K.shift' (lo x) (n % 64 : Nat) (by omega) (by omega) w
    rw [times_nat (k := n % 64) (by omega), wv_low (lo_lt x)] at this
    exact this
  have CB : Hid (∀ w, Calls Tryd.prog 22 #[wv x, wv y] w fun e w' => e = .returned (.int .i64 (- cmpZ y x)) ∧ Old w w') := fun w => by
    have := K.cmp x y hx hy w
    rw [cmpZ_neg] at this
    exact this
  have CC := hide (K.cmp y x hy hx)
  have BC : -1 ≤ cmpZ y x ∧ cmpZ y x ≤ 1 := by
    rcases Nat.lt_trichotomy y x with h | h | h
    · rw [cmpZ_lt h]; omega
    · subst h; rw [cmpZ_eq]; omega
    · rw [cmpZ_gt h]; omega
  have e1 : IntKind.u64.wrap (2 ^ (n % 64)) = ((2 ^ (n % 64) : Nat) : Int) := by
    have e0 : ((2 : Int) ^ (n % 64)) = ((2 ^ (n % 64) : Nat) : Int) := by simp
    rw [e0]
    revert pk
    generalize (2 ^ (n % 64) : Nat) = pp
    intro pk
    show (pp : Int) % 18446744073709551616 = pp
    omega
  clear K T hx hy hz w3 pk
  unfold wv at C1 C2 C3 C4 C5 C6 C7 C8 C9 CA CB CC ⊢
  revert C1 C2 C3 C4 C5 C6 C7 C8 C9 CA CB CC BC e1
  generalize hi (x + y) = p1
  generalize lo (x + y) = q1
  generalize hi (y + z) = p2
  generalize lo (y + z) = q2
  generalize hi (x + y + z) = p3
  generalize lo (x + y + z) = q3
  generalize hi (x * 2 ^ times (n % 64 : Nat)) = p4
  generalize lo (x * 2 ^ times (n % 64 : Nat)) = q4
  generalize hi (x * 2 ^ (n % 64 + n % 64)) = p5
  generalize lo (x * 2 ^ (n % 64 + n % 64)) = q5
  generalize hi (lo x * 2 ^ (n % 64)) = p6
  generalize lo (lo x * 2 ^ (n % 64)) = q6
  generalize hi x = h
  generalize lo x = l
  generalize hi y = h'
  generalize lo y = l'
  generalize hi z = h''
  generalize lo z = l''
  generalize cmpZ y x = cz
  generalize hpk : (2 ^ (n % 64) : Nat) = pk
  generalize n % 64 = k at hk M64 ⊢
  intro C1 C2 C3 C4 C5 C6 C7 C8 C9 CA CB CC BC e1
  clear hpk
  obtain ⟨bc1, bc2⟩ := BC
  have R0 : Hid (Row (((w.alloc (.cells #[.int .u64 (h : Nat), .int .u64 (l : Nat)] 24)).alloc (.cells #[.int .u64 (h' : Nat), .int .u64 (l' : Nat)] 24)).alloc (.cells #[.int .u64 (h'' : Nat), .int .u64 (l'' : Nat)] 24)) w.heap.size 24 [.int .u64 (h : Nat), .int .u64 (l : Nat)]) := ((Row.new _ _ _).mono (Old.of_alloc _ _)).mono (Old.of_alloc _ _)
  have R1 : Hid (Row (((w.alloc (.cells #[.int .u64 (h : Nat), .int .u64 (l : Nat)] 24)).alloc (.cells #[.int .u64 (h' : Nat), .int .u64 (l' : Nat)] 24)).alloc (.cells #[.int .u64 (h'' : Nat), .int .u64 (l'' : Nat)] 24)) (w.heap.size + 1) 24 [.int .u64 (h' : Nat), .int .u64 (l' : Nat)]) := by
    have := (Row.new (w.alloc (.cells #[.int .u64 (h : Nat), .int .u64 (l : Nat)] 24)) 24 [.int .u64 (h' : Nat), .int .u64 (l' : Nat)]).mono (Old.of_alloc _ (.cells #[.int .u64 (h'' : Nat), .int .u64 (l'' : Nat)] 24))
    rw [size_allocW] at this
    exact this
  have R2 : Hid (Row (((w.alloc (.cells #[.int .u64 (h : Nat), .int .u64 (l : Nat)] 24)).alloc (.cells #[.int .u64 (h' : Nat), .int .u64 (l' : Nat)] 24)).alloc (.cells #[.int .u64 (h'' : Nat), .int .u64 (l'' : Nat)] 24)) (w.heap.size + 2) 24 [.int .u64 (h'' : Nat), .int .u64 (l'' : Nat)]) := by
    have := Row.new ((w.alloc (.cells #[.int .u64 (h : Nat), .int .u64 (l : Nat)] 24)).alloc (.cells #[.int .u64 (h' : Nat), .int .u64 (l' : Nat)] 24)) 24 [.int .u64 (h'' : Nat), .int .u64 (l'' : Nat)]
    rw [size_allocW, size_allocW] at this
    exact this
  have O0 := ((Old.of_alloc w (.cells #[.int .u64 (h : Nat), .int .u64 (l : Nat)] 24)).alloc (.cells #[.int .u64 (h' : Nat), .int .u64 (l' : Nat)] 24)).alloc (.cells #[.int .u64 (h'' : Nat), .int .u64 (l'' : Nat)] 24)
  go_enter Tryd.func8, Tryd.ntmps8
  go_wp2_with fail
  revert R0 R1 R2 O0
  generalize ((w.alloc (.cells #[.int .u64 (h : Nat), .int .u64 (l : Nat)] 24)).alloc (.cells #[.int .u64 (h' : Nat), .int .u64 (l' : Nat)] 24)).alloc (.cells #[.int .u64 (h'' : Nat), .int .u64 (l'' : Nat)] 24) = wd
  intro R0 R1 R2 O0
  have a0 : ∀ y : After wd, y.to.cell? ⟨w.heap.size, 0, none⟩ = some (.int .u64 (h : Nat)) := fun y => y.cell (R0.out.cell (i := 0) rfl)
  have a1 : ∀ y : After wd, y.to.cell? ⟨w.heap.size, 1, none⟩ = some (.int .u64 (l : Nat)) := fun y => y.cell (R0.out.cell (i := 1) rfl)
  have b0 : ∀ y : After wd, y.to.cell? ⟨w.heap.size + 1, 0, none⟩ = some (.int .u64 (h' : Nat)) := fun y => y.cell (R1.out.cell (i := 0) rfl)
  have b1 : ∀ y : After wd, y.to.cell? ⟨w.heap.size + 1, 1, none⟩ = some (.int .u64 (l' : Nat)) := fun y => y.cell (R1.out.cell (i := 1) rfl)
  have d0 : ∀ y : After wd, y.to.cell? ⟨w.heap.size + 2, 0, none⟩ = some (.int .u64 (h'' : Nat)) := fun y => y.cell (R2.out.cell (i := 0) rfl)
  have d1 : ∀ y : After wd, y.to.cell? ⟨w.heap.size + 2, 1, none⟩ = some (.int .u64 (l'' : Nat)) := fun y => y.cell (R2.out.cell (i := 1) rfl)
  have ne : Nonempty (After wd) := ⟨⟨_, Old.refl _⟩⟩
  clear R0 R1 R2
  refine wp_region_calm (by kernel_rfl) (by kernel_rfl) ?_
  repeat (go_big_quiet_step (first | with_reducible exact calm_of (C0.out _ (O0.trans (After.old _))) | with_reducible exact calm_of (C1.out _) | with_reducible exact calm_of (C2.out _) | with_reducible exact calm_of (C3.out _) | with_reducible exact calm_of (C4.out _) | with_reducible exact calm_of (C5.out _) | with_reducible exact calm_of (C6.out _) | with_reducible exact calm_of (C7.out _) | with_reducible exact calm_of (C8.out _) | with_reducible exact calm_of (C9.out _) | with_reducible exact calm_of (CA.out _) | with_reducible exact calm_of (CB.out _) | with_reducible exact calm_of (CC.out _)))
  refine wpQuiet_nil ?_
  rintro _ ⟨⟨w9, o9⟩, rfl⟩
  go_wp2
  go_ret
  exact ⟨by simp, O0.trans o9⟩
end Go.Proofs.YtindmmipncclbaaDoor
