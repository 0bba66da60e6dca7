/-
  The walk of layer 9's statement WideApart, if the layer's calls are what they owe.
-/
import Derived.Test.YtindmmipncclbaaDoorLaws9
import Derived.Laws.Cover1
namespace Go.Proofs.YtindmmipncclbaaDoor
open Go.RowKit Wd
set_option linter.unusedVariables false

theorem Wd.Tx.small {x : Nat} {l : List Nat} (T : Tx x l) : ∀ d ∈ l, d < 256 := fun d hd => by have := T.dig d hd; omega
theorem Wd.Tx.less {x y : Nat} {l m : List Nat} (T : Tx x l) (U : Tx y m) : Op.bytesLess (Ssb.bstr l).toList (Ssb.bstr m).toList = lessN l m := by
  rw [bstr_toList, bstr_toList, bytesLess_map T.small U.small]
theorem Wd.Tx.same {x y : Nat} {l m : List Nat} (T : Tx x l) (U : Tx y m) : ((Ssb.bstr l).toList == (Ssb.bstr m).toList) = decide (x = y) := by
  rw [bstr_toList, bstr_toList, map_u8_eq T.small U.small, decide_eq_decide, T.eq_iff U]
/-- How two texts stand to each other. -/
theorem stand {x y : Nat} {l m : List Nat} (T : Tx x l) (U : Tx y m) :
    ((Ssb.bstr l).size < (Ssb.bstr m).size ∧ cmpZ x y = -1) ∨ ((Ssb.bstr m).size < (Ssb.bstr l).size ∧ cmpZ x y = 1) ∨
    ((Ssb.bstr l).size = (Ssb.bstr m).size ∧ ∃ b c z, ((b = true ∧ c = false ∧ z = -1) ∨ (b = false ∧ c = true ∧ z = 0) ∨ (b = false ∧ c = false ∧ z = 1)) ∧ Op.bytesLess (Ssb.bstr l).toList (Ssb.bstr m).toList = b ∧ ((Ssb.bstr l).toList == (Ssb.bstr m).toList) = c ∧ cmpZ x y = z) := by
  have h1 := T.lt_iff U
  have h2 := U.lt_iff T
  rw [T.less U, T.same U, bstr_size, bstr_size]
  rcases Nat.lt_trichotomy l.length m.length with h | h | h
  · exact Or.inl ⟨h, cmpZ_lt (h1.2 (Or.inl h))⟩
  · have hv := lessN_val h T.dig U.dig
    rw [T.val, U.val] at hv
    refine Or.inr (Or.inr ⟨h, ?_⟩)
    rcases Nat.lt_trichotomy x y with g | g | g
    · exact ⟨true, false, -1, Or.inl ⟨rfl, rfl, rfl⟩, hv.2 g, decide_eq_false (by omega), cmpZ_lt g⟩
    · exact ⟨false, true, 0, Or.inr (Or.inl ⟨rfl, rfl, rfl⟩), by rw [← Bool.not_eq_true, hv]; omega, decide_eq_true g, by rw [g]; exact cmpZ_eq y⟩
    · exact ⟨false, false, 1, Or.inr (Or.inr ⟨rfl, rfl, rfl⟩), by rw [← Bool.not_eq_true, hv]; omega, decide_eq_false (by omega), cmpZ_gt g⟩
  · exact Or.inr (Or.inl ⟨h, cmpZ_gt (h2.2 (Or.inl h))⟩)
/-- The first digit. -/
theorem first {x : Nat} {l : List Nat} (T : Tx x l) : ∃ d : Nat, d < 256 ∧ (∀ w, (Instr.index 9 (.string (Ssb.bstr l)) (.int .i64 0)).run Tryd.prog w = .ok (.int .u8 (d : Int)) w) ∧ ((d : Int) != 48) = (d != 48) ∧ (d = 48 → ((Ssb.bstr l).toList == [48]) = true) := by
  cases l with
  | nil => have := T.pos; simp at this
  | cons d r =>
    have hd := T.dig d (by simp)
    refine ⟨d, by omega, fun w => ?_, ?_, ?_⟩
    · have hs : (0 : Int) ≤ 0 ∧ (0 : Int) < (Ssb.bstr (d :: r)).size := ⟨by omega, by rw [bstr_size, List.length_cons]; omega⟩
      rw [run_index_string w 9 _ .i64 0 Tryd.underlying9, dif_pos hs]
      have e2 : (UInt8.ofNat d).toNat = d := UInt8.toNat_ofNat_of_lt' (show d < 256 by omega)
      have e : (Ssb.bstr (d :: r))[(0 : Int).toNat]'(by rw [bstr_size]; simp) = UInt8.ofNat d := rfl
      rw [e, e2]
    · rw [Bool.eq_iff_iff, bne_iff_ne, bne_iff_ne]
      omega
    · intro h
      subst h
      have := T.head rfl
      rw [this, bstr_toList]
      rfl

set_option maxHeartbeats 4000000 in
theorem apart_any (S S' : ByteArray) (h l h' l' d : Nat) (cz : Int) (hp : 0 < S.size)
    (HS : (S.size < S'.size ∧ cz = -1) ∨ (S'.size < S.size ∧ cz = 1) ∨ (S.size = S'.size ∧ ∃ b c z, ((b = true ∧ c = false ∧ z = -1) ∨ (b = false ∧ c = true ∧ z = 0) ∨ (b = false ∧ c = false ∧ z = 1)) ∧ Op.bytesLess S.toList S'.toList = b ∧ (S.toList == S'.toList) = c ∧ cz = z))
    (IX : ∀ w, (Instr.index 9 (.string S) (.int .i64 0)).run Tryd.prog w = .ok (.int .u8 (d : Int)) w) (hd : d < 256) (HD : Hid (d = 48 → (S.toList == [48]) = true)) (w : World)
    (C0 : Hid (∀ w', Old w w' → Calls Tryd.prog 11 #[] w' fun e w'' => e = .returned (.bool true) ∧ Old w' w''))
    (C1 : Hid (∀ w', Old w w' → Calls Tryd.prog 23 #[.agg #[.int .u64 (h : Nat), .int .u64 (l : Nat)]] w' fun e w'' => e = .returned (.string S) ∧ Old w' w''))
    (C2 : Hid (∀ w', Old w w' → Calls Tryd.prog 23 #[.agg #[.int .u64 (h' : Nat), .int .u64 (l' : Nat)]] w' fun e w'' => e = .returned (.string S') ∧ Old w' w''))
    (C3 : Hid (∀ w, Calls Tryd.prog 22 #[.agg #[.int .u64 (h : Nat), .int .u64 (l : Nat)], .agg #[.int .u64 (h' : Nat), .int .u64 (l' : Nat)]] w fun e w' => e = .returned (.int .i64 cz) ∧ Old w w')) :
    Calls Tryd.prog 9 #[.agg #[.int .u64 (h : Nat), .int .u64 (l : Nat)], .agg #[.int .u64 (h' : Nat), .int .u64 (l' : Nat)]] w fun e w' => e = .returned (.bool true) ∧ Old w w' := by
  have HP := hide hp
  have H1 := hide HS
  clear hp HS
  have R0 : Hid (Row ((w.alloc (.cells #[.int .u64 (h : Nat), .int .u64 (l : Nat)] 24)).alloc (.cells #[.int .u64 (h' : Nat), .int .u64 (l' : Nat)] 24)) w.heap.size 24 [.int .u64 (h : Nat), .int .u64 (l : Nat)]) := (Row.new _ _ _).mono (Old.of_alloc _ _)
  have R1 : Hid (Row ((w.alloc (.cells #[.int .u64 (h : Nat), .int .u64 (l : Nat)] 24)).alloc (.cells #[.int .u64 (h' : Nat), .int .u64 (l' : Nat)] 24)) (w.heap.size + 1) 24 [.int .u64 (h' : Nat), .int .u64 (l' : Nat)]) := by
    have := Row.new (w.alloc (.cells #[.int .u64 (h : Nat), .int .u64 (l : Nat)] 24)) 24 [.int .u64 (h' : Nat), .int .u64 (l' : Nat)]
    rw [size_allocW] at this
    exact this
  have O0 := (Old.of_alloc w (.cells #[.int .u64 (h : Nat), .int .u64 (l : Nat)] 24)).alloc (.cells #[.int .u64 (h' : Nat), .int .u64 (l' : Nat)] 24)
  go_enter Tryd.func9, Tryd.ntmps9
  go_wp2_with fail
  revert R0 R1 O0
  generalize (w.alloc (.cells #[.int .u64 (h : Nat), .int .u64 (l : Nat)] 24)).alloc (.cells #[.int .u64 (h' : Nat), .int .u64 (l' : Nat)] 24) = wd
  intro R0 R1 O0
  have a0 : ∀ y : After wd, y.to.cell? ⟨w.heap.size, 0, none⟩ = some (.int .u64 (h : Nat)) := fun y => y.cell (R0.out.cell (i := 0) rfl)
  have a1 : ∀ y : After wd, y.to.cell? ⟨w.heap.size, 1, none⟩ = some (.int .u64 (l : Nat)) := fun y => y.cell (R0.out.cell (i := 1) rfl)
  have b0 : ∀ y : After wd, y.to.cell? ⟨w.heap.size + 1, 0, none⟩ = some (.int .u64 (h' : Nat)) := fun y => y.cell (R1.out.cell (i := 0) rfl)
  have b1 : ∀ y : After wd, y.to.cell? ⟨w.heap.size + 1, 1, none⟩ = some (.int .u64 (l' : Nat)) := fun y => y.cell (R1.out.cell (i := 1) rfl)
  have ne : Nonempty (After wd) := ⟨⟨_, Old.refl _⟩⟩
  refine wp_region_calm (by kernel_rfl) (by kernel_rfl) ?_
  repeat (go_big_quiet_step (first | with_reducible exact calm_of (C1.out _ (O0.trans (After.old _))) | with_reducible exact calm_of (C2.out _ (O0.trans (After.old _)))))
  refine wpQuiet_nil ?_
  rintro _ ⟨⟨w1, o1⟩, rfl⟩
  have R2 := hide (R0.out.mono o1)
  have R3 := hide (R1.out.mono o1)
  have O1 := O0.trans o1
  clear R0 R1 O0 o1 ne a0 a1 b0 b1 C1 C2
  have hp := HP.out
  rcases H1.out with ⟨hs, rfl⟩ | ⟨hs, rfl⟩ | ⟨hs, b, c, z, ⟨rfl, rfl, rfl⟩ | ⟨rfl, rfl, rfl⟩ | ⟨rfl, rfl, rfl⟩, e4, e6, rfl⟩
  all_goals
    clear H1
    go_wp2_with fail
    refine (C0.out _ O1).mono ?_
    rintro e w5 ⟨rfl, o5⟩
    have R4 := hide (R2.out.mono o5)
    have R5 := hide (R3.out.mono o5)
    have O5 := O1.trans o5
    clear R2 R3 O1 o5
    have a0 := R4.out.cell (i := 0) rfl
    have a1 := R4.out.cell (i := 1) rfl
    have b0 := R5.out.cell (i := 0) rfl
    have b1 := R5.out.cell (i := 1) rfl
    go_wp2_with fail
    refine (C3.out _).mono ?_
    rintro e w6 ⟨rfl, o6⟩
    have O6 := O5.trans o6
    clear R4 R5 O5 o6 a0 a1 b0 b1
    by_cases h48 : d = 48
    · have E48 : (S.toList == [48]) = true := HD.out h48
      subst h48
      rw [show ((48 : Nat) : Int) = 48 from rfl] at IX
      go_wp2
      go_ret
      exact ⟨by simp, O6⟩
    · have E48 : ((d : Int) != 48) = true := by rw [bne_iff_ne]; omega
      go_wp2
      go_ret
      exact ⟨by simp, O6⟩

set_option maxHeartbeats 2000000 in
theorem walkK_WideApart (K : WideK) (v0 v1 : Value) (w : World) (w0 : IsWide v0) (w1 : IsWide v1) (T : Tab9 w) :
    Calls Tryd.prog 9 #[v0, v1] w fun e w' => e = .returned (.bool true) ∧ Old w w' := by
  obtain ⟨x, hx, rfl⟩ := w0
  obtain ⟨y, hy, rfl⟩ := w1
  have TX := decL_tx hx
  have U := decL_tx hy
  obtain ⟨d, hd, IX, _, HD⟩ := first TX
  exact apart_any _ _ _ _ _ _ d _ (by rw [bstr_size]; exact TX.pos) (stand TX U) IX hd HD w (fun w' o => awake9 K w' (T.mono o)) (fun w' o => K.text x hx w' (T.mono o)) (fun w' o => K.text y hy w' (T.mono o)) (K.cmp x y hx hy)
end Go.Proofs.YtindmmipncclbaaDoor
