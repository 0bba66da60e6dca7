/-
  Bells as lists of who and when (P19.1). Plain mathematics: nothing of the program.
-/
namespace Go.Proofs.Ytnmigdcedcmbkaa.Bl
set_option linter.unusedVariables false

/-- For whom, and when. -/
abbrev Mk := Int × Int
/-- The first one first; of one moment the least who. -/
def ltM (x y : Mk) : Bool := decide (x.2 < y.2) || (decide (x.2 = y.2) && decide (x.1 < y.1))
theorem ltM_irrefl (x : Mk) : ltM x x = false := by simp [ltM]
theorem ltM_trans {x y z : Mk} (h : ltM x y = true) (k : ltM y z = true) : ltM x z = true := by
  simp only [ltM, Bool.or_eq_true, Bool.and_eq_true, decide_eq_true_eq] at *
  omega
theorem ltM_asymm {x y : Mk} (h : ltM x y = true) : ltM y x = false := by
  rw [Bool.eq_false_iff]
  intro k
  have := ltM_trans h k
  rw [ltM_irrefl] at this
  cases this
theorem ltM_total {x y : Mk} (h : ltM x y = false) (k : ltM y x = false) : x = y := by
  rw [Bool.eq_false_iff] at h k
  simp only [ltM, ne_eq, Bool.or_eq_true, Bool.and_eq_true, decide_eq_true_eq] at h k
  obtain ⟨a, b⟩ := x
  obtain ⟨c, d⟩ := y
  simp only at h k
  have : a = c := by omega
  have : b = d := by omega
  subst_vars
  rfl
theorem not_ltM_trans {x y z : Mk} (h : ltM y x = false) (k : ltM z y = false) : ltM z x = false := by
  rw [Bool.eq_false_iff] at *
  simp only [ltM, ne_eq, Bool.or_eq_true, Bool.and_eq_true, decide_eq_true_eq] at *
  omega
/-- The first of them. -/
def bestL : List Mk → Option Mk
  | [] => none
  | x :: r => match bestL r with
    | none => some x
    | some m => if ltM x m = true then some x else some m
theorem bestL_none {l : List Mk} (h : bestL l = none) : l = [] := by
  cases l with
  | nil => rfl
  | cons x r =>
    unfold bestL at h
    split at h
    · cases h
    · split at h <;> cases h
theorem bestL_some {l : List Mk} {m : Mk} (h : bestL l = some m) : m ∈ l ∧ ∀ x ∈ l, ltM x m = false := by
  induction l generalizing m with
  | nil => cases h
  | cons x r ih =>
    unfold bestL at h
    split at h
    · rename_i e
      cases h
      rw [bestL_none e]
      exact ⟨by simp, fun y hy => by simp at hy; subst hy; exact ltM_irrefl _⟩
    · rename_i m0 e
      obtain ⟨h1, h2⟩ := ih e
      split at h
      · rename_i hx
        cases h
        refine ⟨by simp, fun y hy => ?_⟩
        rcases List.mem_cons.1 hy with rfl | hy
        · exact ltM_irrefl _
        · exact not_ltM_trans (ltM_asymm hx) (h2 y hy)
      · rename_i hx
        cases h
        refine ⟨List.mem_cons_of_mem _ h1, fun y hy => ?_⟩
        rcases List.mem_cons.1 hy with rfl | hy
        · simpa using hx
        · exact h2 y hy
theorem bestL_is {l : List Mk} {m : Mk} (h : m ∈ l) (hm : ∀ x ∈ l, ltM x m = false) : bestL l = some m := by
  cases e : bestL l with
  | none =>
    rw [bestL_none e] at h
    cases h
  | some m' =>
    obtain ⟨h1, h2⟩ := bestL_some e
    rw [ltM_total (hm _ h1) (h2 _ h)]
/-- The same ones in another order. -/
theorem bestL_same {l l' : List Mk} (h : ∀ x, x ∈ l ↔ x ∈ l') : bestL l = bestL l' := by
  cases e : bestL l' with
  | none =>
    have : l' = [] := bestL_none e
    subst this
    have : l = [] := List.eq_nil_iff_forall_not_mem.2 fun x hx => by simpa using (h x).1 hx
    subst this
    rfl
  | some m =>
    obtain ⟨h1, h2⟩ := bestL_some e
    exact bestL_is ((h m).2 h1) fun x hx => h2 x ((h x).1 hx)

def hasL (l : List Mk) (who : Int) : Bool := l.any fun x => decide (x.1 = who)
/-- Set anew where it is there; else one more. -/
def setL (l : List Mk) (who at_ : Int) : List Mk := if hasL l who = true then l.map fun x => if x.1 = who then (who, at_) else x else l ++ [(who, at_)]
def stopL (l : List Mk) (who : Int) : List Mk := l.filter fun x => decide (x.1 ≠ who)
/-- Whom it rings for by now. -/
def dueL (l : List Mk) (now : Int) : Option Mk := match bestL l with
  | none => none
  | some m => if m.2 ≤ now then some m else none
def setE (at_ : Int) : Nat := if 0 ≤ at_ ∧ at_ ≤ 1099511627776 then 0 else 1
/-- Nobody twice. -/
def One1 (l : List Mk) : Prop := (l.map (·.1)).Nodup
instance (l : List Mk) : Decidable (One1 l) := by unfold One1; infer_instance
theorem hasL_iff {l : List Mk} {who : Int} : hasL l who = true ↔ ∃ x ∈ l, x.1 = who := by
  unfold hasL
  rw [List.any_eq_true]
  simp
theorem One1.eq {l : List Mk} (h : One1 l) {x y : Mk} (hx : x ∈ l) (hy : y ∈ l) (e : x.1 = y.1) : x = y := by
  induction l with
  | nil => cases hx
  | cons z r ih =>
    unfold One1 at h
    rw [List.map_cons, List.nodup_cons] at h
    rcases List.mem_cons.1 hx with h1 | h1 <;> rcases List.mem_cons.1 hy with h2 | h2
    · rw [h1, h2]
    · exact (h.1 (List.mem_map.2 ⟨y, h2, by rw [← h1]; exact e.symm⟩)).elim
    · exact (h.1 (List.mem_map.2 ⟨x, h1, by rw [← h2]; exact e⟩)).elim
    · exact ih h.2 h1 h2
theorem One1.stop {l : List Mk} (h : One1 l) (who : Int) : One1 (stopL l who) := by
  unfold One1 stopL at *
  exact h.sublist (List.filter_sublist.map _)
theorem One1.set {l : List Mk} (h : One1 l) (who at_ : Int) : One1 (setL l who at_) := by
  unfold setL
  split
  · unfold One1 at *
    rw [List.map_map, show ((fun x : Mk => x.1) ∘ fun x : Mk => if x.1 = who then (who, at_) else x) = fun x => x.1 from funext fun x => by
      simp only [Function.comp]
      split <;> simp_all]
    exact h
  · rename_i hn
    unfold One1 at *
    rw [List.map_append, List.nodup_append]
    refine ⟨h, by simp, fun a ha b hb e => ?_⟩
    obtain ⟨x, hx, rfl⟩ := List.mem_map.1 ha
    simp at hb
    exact hn (hasL_iff.2 ⟨x, hx, e.trans hb⟩)
theorem stopL_length (l : List Mk) (who : Int) : (stopL l who).length ≤ l.length := List.length_filter_le _ _
theorem setL_length (l : List Mk) (who at_ : Int) : (setL l who at_).length ≤ l.length + 1 := by
  unfold setL
  split <;> simp
theorem stopL_none {l : List Mk} {who : Int} (h : hasL l who = false) : stopL l who = l := by
  unfold stopL
  rw [List.filter_eq_self]
  intro x hx
  rw [Bool.eq_false_iff] at h
  simp only [decide_eq_true_eq]
  exact fun e => h (hasL_iff.2 ⟨x, hx, e⟩)
theorem mem_stopL {l : List Mk} {who : Int} {x : Mk} : x ∈ stopL l who ↔ x ∈ l ∧ x.1 ≠ who := by
  unfold stopL
  rw [List.mem_filter]
  simp
theorem mem_setL {l : List Mk} {who at_ : Int} {x : Mk} : x ∈ setL l who at_ ↔ x = (who, at_) ∨ (x ∈ l ∧ x.1 ≠ who) := by
  unfold setL
  split
  · rename_i h
    obtain ⟨y, hy, hw⟩ := hasL_iff.1 h
    rw [List.mem_map]
    constructor
    · rintro ⟨z, hz, rfl⟩
      split
      · exact .inl rfl
      · rename_i hne
        exact .inr ⟨hz, hne⟩
    · rintro (rfl | ⟨h1, h2⟩)
      · exact ⟨y, hy, by rw [if_pos hw]⟩
      · exact ⟨x, h1, by rw [if_neg h2]⟩
  · rename_i h
    rw [List.mem_append, List.mem_singleton]
    constructor
    · rintro (h1 | h1)
      · exact .inr ⟨h1, fun e => h (hasL_iff.2 ⟨x, h1, e⟩)⟩
      · exact .inl h1
    · rintro (h1 | ⟨h1, _⟩)
      · exact .inr h1
      · exact .inl h1

/-- The place of who among the first i; -1: it is not there. -/
def plcTo (l : List Mk) (who : Int) : Nat → Int
  | 0 => -1
  | i + 1 => if (l.getD i (0, 0)).1 = who then (i : Int) else plcTo l who i
theorem plcTo_is (l : List Mk) (who : Int) (i : Nat) (hi : i ≤ l.length) :
    (plcTo l who i = -1 ∧ ∀ j, j < i → (l.getD j (0, 0)).1 ≠ who) ∨ ∃ j : Nat, j < i ∧ plcTo l who i = (j : Int) ∧ (l.getD j (0, 0)).1 = who := by
  induction i with
  | zero => exact .inl ⟨rfl, fun j hj => by omega⟩
  | succ i ih =>
    unfold plcTo
    split
    · rename_i h
      exact .inr ⟨i, by omega, rfl, h⟩
    · rename_i h
      rcases ih (by omega) with ⟨h1, h2⟩ | ⟨j, h1, h2, h3⟩
      · refine .inl ⟨h1, fun j hj => ?_⟩
        by_cases e : j = i
        · rw [e]; exact h
        · exact h2 j (by omega)
      · exact .inr ⟨j, by omega, h2, h3⟩
/-- Where it is, and what comes of setting and stopping it. -/
theorem plc_cases (l : List Mk) (h : One1 l) (who : Int) :
    (plcTo l who l.length = -1 ∧ hasL l who = false) ∨
    ∃ j : Nat, j < l.length ∧ plcTo l who l.length = (j : Int) ∧ hasL l who = true ∧ (l.getD j (0, 0)).1 = who ∧ stopL l who = l.take j ++ l.drop (j + 1) ∧ ∀ t, setL l who t = l.set j (who, t) := by
  rcases plcTo_is l who l.length (Nat.le_refl _) with ⟨h1, h2⟩ | ⟨j, h1, h2, h3⟩
  · refine .inl ⟨h1, ?_⟩
    rw [Bool.eq_false_iff]
    intro hh
    obtain ⟨x, hx, e⟩ := hasL_iff.1 hh
    obtain ⟨j, hj, rfl⟩ := List.mem_iff_getElem.1 hx
    exact h2 j hj (by simpa [List.getD, hj] using e)
  · have e : l.getD j (0, 0) = l[j] := by simp [List.getD, h1]
    rw [e] at h3
    have hh : hasL l who = true := hasL_iff.2 ⟨l[j], List.getElem_mem h1, h3⟩
    have inj : ∀ i (hi : i < l.length), l[i].1 = who → i = j := fun i hi he => by
      have hn := h
      unfold One1 at hn
      have hp := List.pairwise_iff_getElem.1 hn
      rcases Nat.lt_trichotomy i j with hl | hl | hl
      · exact (hp i j (by simpa using hi) (by simpa using h1) hl (by simp [he, h3])).elim
      · exact hl
      · exact (hp j i (by simpa using h1) (by simpa using hi) hl (by simp [he, h3])).elim
    refine .inr ⟨j, h1, h2, hh, by rw [e]; exact h3, ?_, fun t => ?_⟩
    · unfold stopL
      conv => lhs; rw [show l = l.take j ++ (l[j] :: l.drop (j + 1)) by rw [← List.drop_eq_getElem_cons h1, List.take_append_drop]]
      rw [List.filter_append, List.filter_cons, if_neg (by simp [h3])]
      congr 1
      · rw [List.filter_eq_self]
        intro x hx
        obtain ⟨i, hi, rfl⟩ := List.mem_iff_getElem.1 hx
        rw [List.length_take] at hi
        rw [List.getElem_take]
        simp only [decide_eq_true_eq]
        intro he
        have := inj i (by omega) he
        omega
      · rw [List.filter_eq_self]
        intro x hx
        obtain ⟨i, hi, rfl⟩ := List.mem_iff_getElem.1 hx
        rw [List.length_drop] at hi
        rw [List.getElem_drop]
        simp only [decide_eq_true_eq]
        intro he
        have := inj (j + 1 + i) (by omega) he
        omega
    · unfold setL
      rw [if_pos hh]
      apply List.ext_getElem
      · simp
      · intro i hi1 hi2
        rw [List.getElem_map, List.getElem_set]
        rw [List.length_map] at hi1
        by_cases e2 : j = i
        · subst e2
          rw [if_pos h3, if_pos rfl]
        · rw [if_neg e2, if_neg (fun he => e2 (inj i hi1 he).symm)]

/-- The place of the first among the first i; -1: there is none. -/
def fstTo (l : List Mk) : Nat → Int
  | 0 => -1
  | i + 1 => if fstTo l i < 0 ∨ ltM (l.getD i (0, 0)) (l.getD (fstTo l i).toNat (0, 0)) = true then (i : Int) else fstTo l i
theorem fstTo_is (l : List Mk) (i : Nat) : (i = 0 ∧ fstTo l i = -1) ∨ ∃ j : Nat, j < i ∧ fstTo l i = (j : Int) ∧ ∀ k, k < i → ltM (l.getD k (0, 0)) (l.getD j (0, 0)) = false := by
  induction i with
  | zero => exact .inl ⟨rfl, rfl⟩
  | succ i ih =>
    right
    unfold fstTo
    rcases ih with ⟨rfl, h1⟩ | ⟨j, h1, h2, h3⟩
    · rw [if_pos (.inl (by rw [h1]; decide))]
      refine ⟨0, by omega, rfl, fun k hk => ?_⟩
      rw [show k = 0 by omega]
      exact ltM_irrefl _
    · rw [h2]
      by_cases hlt : ltM (l.getD i (0, 0)) (l.getD j (0, 0)) = true
      · rw [if_pos (.inr (by simpa using hlt))]
        refine ⟨i, by omega, rfl, fun k hk => ?_⟩
        by_cases e : k = i
        · rw [e]; exact ltM_irrefl _
        · exact not_ltM_trans (ltM_asymm hlt) (h3 k (by omega))
      · have c : ¬ ((j : Int) < 0 ∨ ltM (l.getD i (0, 0)) (l.getD (j : Int).toNat (0, 0)) = true) := by
          rintro (h | h)
          · omega
          · exact hlt (by simpa using h)
        rw [if_neg c]
        refine ⟨j, by omega, rfl, fun k hk => ?_⟩
        by_cases e : k = i
        · rw [e]; simpa using hlt
        · exact h3 k (by omega)
theorem fst_cases (l : List Mk) : (l = [] ∧ fstTo l l.length = -1 ∧ bestL l = none) ∨ ∃ j : Nat, j < l.length ∧ fstTo l l.length = (j : Int) ∧ bestL l = some (l.getD j (0, 0)) := by
  rcases fstTo_is l l.length with ⟨h1, h2⟩ | ⟨j, h1, h2, h3⟩
  · have := List.eq_nil_of_length_eq_zero h1
    subst this
    exact .inl ⟨rfl, h2, rfl⟩
  · refine .inr ⟨j, h1, h2, bestL_is ?_ ?_⟩
    · rw [show l.getD j (0, 0) = l[j] by simp [List.getD, h1]]
      exact List.getElem_mem h1
    · intro x hx
      obtain ⟨k, hk, rfl⟩ := List.mem_iff_getElem.1 hx
      have := h3 k hk
      rwa [show l.getD k (0, 0) = l[k] by simp [List.getD, hk]] at this
end Go.Proofs.Ytnmigdcedcmbkaa.Bl
