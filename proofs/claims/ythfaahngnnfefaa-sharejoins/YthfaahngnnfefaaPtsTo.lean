/-
  The points of a polynomial at 1, 2 and so on; when points are sound. Plain mathematics: nothing of the program.
-/
import Derived.Test.YthfaahngnnfefaaPolyC
namespace Go.Proofs.Ythfaahngnnfefaa
open Go.RowKit M Pm
set_option linter.unusedVariables false

theorem map_F_inj : ∀ a b : List Nat, (∀ x ∈ a, x < 2305843009213693951) → (∀ x ∈ b, x < 2305843009213693951) → a.map F = b.map F → a = b
  | [], [], _, _, _ => rfl
  | [], _ :: _, _, _, h => by simp at h
  | _ :: _, [], _, _, h => by simp at h
  | c :: r, d :: s, ha, hb, h => by
    simp only [List.map_cons, List.cons.injEq] at h
    rw [F_inj (ha c (by simp)) (hb d (by simp)) h.1, map_F_inj r s (fun x hx => ha x (by simp [hx])) (fun x hx => hb x (by simp [hx])) h.2]

/-- The points of a polynomial at 1, 2 and so on. -/
def ptsTo (c : List Nat) (k : Nat) : List Pt := (List.range k).map fun (j : Nat) => (((j + 1 : Nat) : Int), evN c (j + 1))
theorem ptsTo_length (c : List Nat) (k : Nat) : (ptsTo c k).length = k := by simp [ptsTo]
theorem ptsTo_step (c : List Nat) (k : Nat) : ptsTo c (k + 1) = ptsTo c k ++ [(((k + 1 : Nat) : Int), evN c (k + 1))] := by
  simp [ptsTo, List.range_succ]
theorem ptsTo_get (c : List Nat) {k j : Nat} (h : j < k) : (ptsTo c k)[j]? = some (((j + 1 : Nat) : Int), evN c (j + 1)) := by
  simp [ptsTo, h]
theorem anyTwice_of {ps : List Pt} : ∀ {n : Nat}, (∀ i j, i < n → j < n → i ≠ j → at1 ps i ≠ at1 ps j) → anyTwice ps n = false
  | 0, _ => rfl
  | n + 1, h => by
    rw [anyTwice, anyTwice_of (fun i j hi hj => h i j (by omega) (by omega))]
    have key : ∀ k, k ≤ n → twice ps n k = false := by
      intro k
      induction k with
      | zero => intro _; rfl
      | succ k ih =>
        intro hk
        rw [twice, ih (by omega)]
        have := h n k (by omega) (by omega) (by omega)
        simpa using this
    rw [key n (Nat.le_refl _)]; rfl
theorem anyWide_of {ps : List Pt} : ∀ {n : Nat}, (∀ i, i < n → 1 ≤ at1 ps i ∧ at1 ps i ≤ 64 ∧ at2 ps i < 2305843009213693951) → anyWide ps n = false
  | 0, _ => rfl
  | n + 1, h => by
    rw [anyWide, anyWide_of (fun i hi => h i (by omega))]
    have := h n (by omega)
    simp [wide]
    omega
theorem ptsTo_err (c : List Nat) {k : Nat} (h1 : 1 ≤ k) (h2 : k ≤ 64) : errOf (ptsTo c k) = 0 := by
  unfold errOf
  rw [ptsTo_length, if_neg (by omega), anyTwice_of, anyWide_of]
  · rfl
  · intro i hi
    obtain ⟨e1, e2⟩ := at_of (ptsTo_get c hi)
    rw [e1, e2]
    exact ⟨by omega, by omega, evN_lt _ _⟩
  · intro i j hi hj hij
    rw [(at_of (ptsTo_get c hi)).1, (at_of (ptsTo_get c hj)).1]
    omega
theorem ptsTo_none (c : List Nat) : errOf (ptsTo c 0) = 1 := rfl
end Go.Proofs.Ythfaahngnnfefaa
