/-
  Heaps in a list: what moving up and down leaves. Plain mathematics: nothing of the program.
-/
import Derived.Test.YtnmigdcedcmbkaaBellN
namespace Go.Proofs.Ytnmigdcedcmbkaa.Hp
open Bl
set_option linter.unusedVariables false

/-- Two places changed about. -/
def swp {α : Type} (xs : List α) (i j : Nat) : List α := match xs[i]?, xs[j]? with
  | some x, some y => (xs.set i y).set j x
  | _, _ => xs
section
variable {α : Type}
theorem swp_length (xs : List α) (i j : Nat) : (swp xs i j).length = xs.length := by
  unfold swp
  split <;> simp
theorem swp_get (xs : List α) {i j : Nat} (hi : i < xs.length) (hj : j < xs.length) (k : Nat) : (swp xs i j)[k]? = if k = j then xs[i]? else if k = i then xs[j]? else xs[k]? := by
  unfold swp
  rw [List.getElem?_eq_getElem hi, List.getElem?_eq_getElem hj]
  simp only
  rw [List.getElem?_set, List.getElem?_set, List.length_set]
  by_cases h1 : k = j
  · subst h1
    simp [hj]
  · rw [if_neg (fun e => h1 e.symm), if_neg h1]
    by_cases h2 : k = i
    · subst h2
      simp [hi]
    · rw [if_neg (fun e => h2 e.symm), if_neg h2]
theorem swp_perm (xs : List α) {i j : Nat} (hi : i < xs.length) (hj : j < xs.length) : (swp xs i j).Perm xs := by
  have e : swp xs i j = (xs.set i xs[j]).set j xs[i] := by
    unfold swp
    rw [List.getElem?_eq_getElem hi, List.getElem?_eq_getElem hj]
  rw [e]
  exact List.set_set_perm hi hj
end

variable (ks : Nat → Mk)
/-- No one of the first n stands ahead of the one over it. -/
def Heap (n : Nat) : Prop := ∀ k, 0 < k → k < n → ltM (ks k) (ks ((k - 1) / 2)) = false
/-- .. but for place j, that may stand ahead of what is over it. -/
structure UpOk (n j : Nat) : Prop where
  rest : ∀ k, 0 < k → k < n → k ≠ j → ltM (ks k) (ks ((k - 1) / 2)) = false
  skip : ∀ k, 0 < k → k < n → (k - 1) / 2 = j → 0 < j → ltM (ks k) (ks ((j - 1) / 2)) = false
/-- .. but for place i, and those under it. -/
structure AnyOk (n i : Nat) : Prop where
  rest : ∀ k, 0 < k → k < n → k ≠ i → (k - 1) / 2 ≠ i → ltM (ks k) (ks ((k - 1) / 2)) = false
  skip : ∀ k, 0 < k → k < n → (k - 1) / 2 = i → 0 < i → ltM (ks k) (ks ((i - 1) / 2)) = false
/-- .. but for those under place i. -/
def DownOk (n i : Nat) : Prop := AnyOk ks n i ∧ (0 < i → ltM (ks i) (ks ((i - 1) / 2)) = false)
variable {ks : Nat → Mk}
theorem Heap.any {n : Nat} (h : Heap ks n) (i : Nat) : AnyOk ks n i := by
  refine ⟨fun k h1 h2 _ _ => h k h1 h2, fun k h1 h2 h3 h4 => ?_⟩
  have a := h k h1 h2
  rw [h3] at a
  by_cases hi : i < n
  · exact not_ltM_trans (h i h4 hi) a
  · omega
/-- One value turned. -/
theorem Heap.turned {ks ks' : Nat → Mk} {n : Nat} (h : Heap ks n) (i : Nat) (e : ∀ k, k ≠ i → ks' k = ks k) : AnyOk ks' n i := by
  have a := h.any i
  refine ⟨fun k h1 h2 h3 h4 => ?_, fun k h1 h2 h3 h4 => ?_⟩
  · rw [e k h3, e _ h4]
    exact h k h1 h2
  · rw [e k (by omega), e _ (by omega)]
    exact a.skip k h1 h2 h3 h4
theorem UpOk.done {n j : Nat} (h : UpOk ks n j) (hj : 0 < j → j < n → ltM (ks j) (ks ((j - 1) / 2)) = false) : Heap ks n := fun k h1 h2 => by
  by_cases e : k = j
  · subst e; exact hj h1 h2
  · exact h.rest k h1 h2 e
/-- What is at j goes up. -/
theorem UpOk.step {ks ks' : Nat → Mk} {n j : Nat} (h : UpOk ks n j) (hj : 0 < j) (hn : j < n) (hl : ltM (ks j) (ks ((j - 1) / 2)) = true) (e : ∀ k, ks' k = if k = j then ks ((j - 1) / 2) else if k = (j - 1) / 2 then ks j else ks k) : UpOk ks' n ((j - 1) / 2) := by
  refine ⟨fun k h1 h2 h3 => ?_, fun k h1 h2 h3 h4 => ?_⟩
  · by_cases hk : k = j
    · subst hk
      rw [e k, if_pos rfl, e ((k - 1) / 2), if_neg (by omega), if_pos rfl]
      exact ltM_asymm hl
    · rw [e k, if_neg hk, if_neg h3]
      by_cases hp : (k - 1) / 2 = j
      · rw [hp, e j, if_pos rfl]
        exact h.skip k h1 h2 hp hj
      · rw [e ((k - 1) / 2), if_neg hp]
        by_cases hq : (k - 1) / 2 = (j - 1) / 2
        · rw [if_pos hq]
          have a := h.rest k h1 h2 hk
          rw [hq] at a
          exact not_ltM_trans (ltM_asymm hl) a
        · rw [if_neg hq]
          exact h.rest k h1 h2 hk
  · have hpp : ks' (((j - 1) / 2 - 1) / 2) = ks (((j - 1) / 2 - 1) / 2) := by
      rw [e, if_neg (by omega), if_neg (by omega)]
    rw [hpp]
    have b := h.rest ((j - 1) / 2) h4 (by omega) (by omega)
    by_cases hk : k = j
    · subst hk
      rw [e k, if_pos rfl]
      exact b
    · rw [e k, if_neg hk, if_neg (by omega)]
      have a := h.rest k h1 h2 hk
      rw [h3] at a
      exact not_ltM_trans b a
/-- Where nothing under i stands ahead of it, all is well under it. -/
theorem AnyOk.up {n i : Nat} (h : AnyOk ks n i) (hc : ∀ k, 0 < k → k < n → (k - 1) / 2 = i → ltM (ks k) (ks i) = false) : UpOk ks n i := by
  refine ⟨fun k h1 h2 h3 => ?_, h.skip⟩
  by_cases hp : (k - 1) / 2 = i
  · rw [hp]; exact hc k h1 h2 hp
  · exact h.rest k h1 h2 h3 hp
theorem DownOk.done {n i : Nat} (h : DownOk ks n i) (hc : ∀ k, 0 < k → k < n → (k - 1) / 2 = i → ltM (ks k) (ks i) = false) : Heap ks n := (h.1.up hc).done fun h1 _ => h.2 h1
/-- What is at i goes down: the lesser one of the two under it, at j, comes up. -/
theorem AnyOk.step {ks ks' : Nat → Mk} {n i j : Nat} (h : AnyOk ks n i) (hj : 0 < j) (hn : j < n) (hp : (j - 1) / 2 = i) (hmin : ∀ k, 0 < k → k < n → (k - 1) / 2 = i → ltM (ks k) (ks j) = false) (hl : ltM (ks j) (ks i) = true)
    (e : ∀ k, ks' k = if k = j then ks i else if k = i then ks j else ks k) : DownOk ks' n j := by
  refine ⟨⟨fun k h1 h2 h3 h4 => ?_, fun k h1 h2 h3 h4 => ?_⟩, fun _ => ?_⟩
  · rw [e k, if_neg h3]
    by_cases hk : k = i
    · rw [if_pos hk, hk, e, if_neg (by omega), if_neg (by omega)]
      exact h.skip j hj hn hp (by omega)
    · rw [if_neg hk, e, if_neg h4]
      by_cases hq : (k - 1) / 2 = i
      · rw [if_pos hq]
        exact hmin k h1 h2 hq
      · rw [if_neg hq]
        exact h.rest k h1 h2 hk hq
  · rw [e k, if_neg (by omega), if_neg (by omega), hp, e i, if_neg (by omega), if_pos rfl]
    have a := h.rest k h1 h2 (by omega) (by omega)
    rwa [h3] at a
  · rw [hp, e j, if_pos rfl, e i, if_neg (by omega), if_pos rfl]
    exact ltM_asymm hl
/-- The first place has the first of all. -/
theorem Heap.first {n : Nat} (h : Heap ks n) : ∀ k, k < n → ltM (ks k) (ks 0) = false := by
  intro k
  induction k using Nat.strongRecOn with
  | _ k ih =>
    intro hk
    by_cases h0 : k = 0
    · subst h0; exact ltM_irrefl _
    · exact not_ltM_trans (ih ((k - 1) / 2) (by omega) (by omega)) (h k (by omega) hk)
end Go.Proofs.Ytnmigdcedcmbkaa.Hp
