/-
  Package wide: what Text answers; so the layer's calls are what they owe.
-/
import Derived.Test.YtindmmipncclbaaDoorWideF
import Derived.Test.YtindmmipncclbaaDoorFmt9
import Derived.Test.YtindmmipncclbaaDoorDec9
namespace Go.Proofs.YtindmmipncclbaaDoor
open Go.RowKit Wd
set_option linter.unusedVariables false

theorem Fmt_text (u : Nat) (hu : u < 18446744073709551616) (w : World) (T : Tab9 w) :
    Calls Tryd.prog 30 #[.int .u64 (u : Nat), .int .i64 10] w fun e w' => e = .returned (.string (Ssb.bstr (decL u))) ∧ Old w w' := by
  rw [← lib_text (u := u) (by unfold M; omega)]
  exact Fmt_any u hu w T
theorem Rep_text (c : Nat) (hc : c ≤ 19) (w : World) :
    Calls Tryd.prog 31 #[.string { data := #[48] }, .int .i64 (c : Nat)] w fun e w' => e = .returned (.string (Ssb.bstr (List.replicate c 48))) ∧ Old w w' := by
  rw [← rep_text c]
  exact Any.strings_Repeat repeatLays repeatExtra ⟨#[48]⟩ c w (by omega) (by show 1 * c ≤ _; omega)
theorem add_text (l m : List Nat) (h : l.length + m.length ≤ 100) (w : World) : (Op.stringOp .add (Ssb.bstr l) (Ssb.bstr m)).run Tryd.prog w = .ok (.string (Ssb.bstr (l ++ m))) w := by
  rw [run_string_add_sum w _ _ (by rw [bstr_size, bstr_size]; omega), bstr_append]

set_option maxHeartbeats 2000000 in
theorem Text_zero (x : Nat) (hx : x < M) (h0 : x / 10000000000000000000 = 0) (w : World) (T : Tab9 w) :
    Calls Tryd.prog 23 #[wv x] w fun e w' => e = .returned (.string (Ssb.bstr (decL x))) ∧ Old w w' := by
  have C1 := hide (fun w => group_any x hx w)
  have hm : x % 10000000000000000000 = x := by omega
  rw [h0, hm] at C1
  have C2 := hide (fun w' (o : Old w w') => Fmt_text x (by omega) w' (T.mono o))
  clear T hx h0 hm
  unfold wv at C1 ⊢
  rw [show hi 0 = 0 from rfl, show lo 0 = 0 from rfl] at C1
  revert C1 C2
  generalize Ssb.bstr (decL x) = S
  generalize hi x = h
  generalize lo x = l
  intro C1 C2
  go_enter Tryd.func23, Tryd.ntmps23
  go_wp2_with fail
  refine (C1.out _).mono ?_
  rintro e w1 ⟨rfl, o1⟩
  have O1 := (Old.of_alloc w (.cells #[.int .u64 (h : Nat), .int .u64 (l : Nat)] 24)).trans o1
  clear o1
  have R1 := hide (Row.new w1 24 [.int .u64 0, .int .u64 0])
  have O2 := O1.alloc (.cells #[.int .u64 0, .int .u64 0] 24)
  clear O1
  go_wp2_with fail
  refine (C2.out _ O2).mono ?_
  rintro e w2 ⟨rfl, o2⟩
  have R2 := hide (R1.out.mono o2)
  have O3 := O2.trans o2
  clear o2 R1 O2
  have c0 := R2.out.cell (i := 0) rfl
  have c1 := R2.out.cell (i := 1) rfl
  go_wp2
  go_ret
  exact ⟨rfl, O3⟩

set_option maxHeartbeats 2000000 in
theorem Text_step (x : Nat) (hx : x < M) (h1 : 10000000000000000000 ≤ x) (w : World) (T : Tab9 w)
    (IH : ∀ w : World, Tab9 w → Calls Tryd.prog 23 #[wv (x / 10000000000000000000)] w fun e w' => e = .returned (.string (Ssb.bstr (decL (x / 10000000000000000000)))) ∧ Old w w') :
    Calls Tryd.prog 23 #[wv x] w fun e w' => e = .returned (.string (Ssb.bstr (decL x))) ∧ Old w w' := by
  obtain ⟨hl, hd⟩ := decL_group hx h1
  have hne : ¬ (hi (x / 10000000000000000000) = 0 ∧ lo (x / 10000000000000000000) = 0) := by
    rintro ⟨e1, e2⟩
    have hq : x / 10000000000000000000 < M := Nat.lt_of_le_of_lt (Nat.div_le_self _ _) hx
    have := split_hl hq
    rw [e1, e2] at this
    have h2 : 1 ≤ x / 10000000000000000000 := D19.le_quo (by omega) (by omega)
    omega
  have hlen : (decL (x / 10000000000000000000)).length ≤ 39 := by
    have hq : x / 10000000000000000000 < M := Nat.lt_of_le_of_lt (Nat.div_le_self _ _) hx
    exact (decL_tx hq).short (k := 39) (by unfold M at hq; omega) (by omega)
  have C1 := hide (fun w => group_any x hx w)
  have C2 := hide (fun w' (o : Old w w') => Fmt_text (x % 10000000000000000000) (by omega) w' (T.mono o))
  have C3 := hide (fun w' (o : Old w w') => IH w' (T.mono o))
  obtain ⟨c, hc⟩ : ∃ c : Nat, c = 19 - (decL (x % 10000000000000000000)).length := ⟨_, rfl⟩
  have C4 := hide (fun w' => Rep_text c (by omega) w')
  rw [← hc] at hd
  have A1 := fun w' => add_text (decL (x / 10000000000000000000)) (List.replicate c 48) (by rw [List.length_replicate]; omega) w'
  have A2 := fun w' => add_text (decL (x / 10000000000000000000) ++ List.replicate c 48) (decL (x % 10000000000000000000)) (by rw [List.length_append, List.length_replicate]; omega) w'
  rw [hd] at A2
  have hs : (19 : Int) - ((Ssb.bstr (decL (x % 10000000000000000000))).size : Int) = (c : Int) := by rw [bstr_size]; omega
  have hc0 : (0 : Int) ≤ c := by omega
  have hc1 : (c : Int) ≤ 19 := by omega
  clear T IH hx h1 hl hd hc hlen
  unfold wv at C1 C3 ⊢
  revert C1 C2 C3 C4 A1 A2 hs hne
  generalize Ssb.bstr (decL x) = S5
  generalize Ssb.bstr (decL (x / 10000000000000000000) ++ List.replicate c 48) = S4
  generalize Ssb.bstr (decL (x / 10000000000000000000)) = S1
  generalize Ssb.bstr (decL (x % 10000000000000000000)) = S2
  generalize Ssb.bstr (List.replicate c 48) = S3
  generalize hi (x / 10000000000000000000) = p
  generalize lo (x / 10000000000000000000) = q
  generalize x % 10000000000000000000 = z
  generalize hi x = h
  generalize lo x = l
  intro hne C1 C2 C3 C4 A1 A2 hs
  have tests : ((p : Int) == 0) = false ∨ (p = 0 ∧ ((q : Int) == 0) = false) := by
    by_cases hp : p = 0
    · right
      refine ⟨hp, ?_⟩
      simp
      omega
    · left
      simp
      omega
  clear hne
  go_enter Tryd.func23, Tryd.ntmps23
  go_wp2_with fail
  refine (C1.out _).mono ?_
  rintro e w1 ⟨rfl, o1⟩
  have O1 := (Old.of_alloc w (.cells #[.int .u64 (h : Nat), .int .u64 (l : Nat)] 24)).trans o1
  clear o1
  have R1 := hide (Row.new w1 24 [.int .u64 (p : Nat), .int .u64 (q : Nat)])
  have O2 := O1.alloc (.cells #[.int .u64 (p : Nat), .int .u64 (q : Nat)] 24)
  clear O1
  go_wp2_with fail
  refine (C2.out _ O2).mono ?_
  rintro e w2 ⟨rfl, o2⟩
  have R2 := hide (R1.out.mono o2)
  have O3 := O2.trans o2
  clear o2 R1 O2
  rcases tests with tp | ⟨rfl, tp⟩
  all_goals
    have c0 := R2.out.cell (i := 0) rfl
    have c1 := R2.out.cell (i := 1) rfl
    go_wp2_with fail
    refine (C3.out _ O3).mono ?_
    rintro e w3 ⟨rfl, o3⟩
    have O4 := O3.trans o3
    clear o3 R2 O3 c0 c1
    go_wp2_with fail
    refine (C4.out _).mono ?_
    rintro e w4 ⟨rfl, o4⟩
    have O5 := O4.trans o4
    clear o4 O4
    go_wp2
    go_ret
    exact ⟨rfl, O5⟩

theorem Text_any9 : TextC9 := by
  intro x
  induction x using Nat.strongRecOn with
  | _ x ih =>
    intro hx w T
    by_cases h0 : x < 10000000000000000000
    · exact Text_zero x hx (Nat.div_eq_of_lt h0) w T
    · have hq : x / 10000000000000000000 < x := Nat.div_lt_self (by omega) (by omega)
      exact Text_step x hx (by omega) w T (fun w T => ih _ hq (Nat.lt_trans hq hx) w T)

theorem wideK : WideK := ⟨Add_any9, Sub_any9, Neg_any9, Mul_any9, Shift_any9, Compare_any9, Text_any9⟩
end Go.Proofs.YtindmmipncclbaaDoor
