/-
  What the bound of the second form gives of lengths.
-/
import Derived.Test.YtooilnpghcdjiaaRows
namespace Go.Proofs.Ytooilnpghcdjiaa
set_option linter.unusedVariables false

theorem bulk_pos {H : Type} : ∀ d : DataW H, 0 < Rows.uptoBulk d
  | .lit (.string _) | .lit (.int _ _) | .lit (.bool _) => by simp [Rows.uptoBulk]
  | .lit l => by cases l <;> simp [Rows.uptoBulk]
  | .nil | .ptr _ | .slice _ _ | .agg _ | .iface _ _ | .map _ | .held _ => by simp [Rows.uptoBulk]
theorem bulk_count {H : Type} (l : List (DataW H)) : l.length ≤ Rows.uptoBulkAll l := by
  induction l with
  | nil => simp
  | cons d r ih =>
    have := bulk_pos d
    simp only [Rows.uptoBulkAll, List.length_cons]
    omega
theorem bulk_in {H : Type} {d : DataW H} {l : List (DataW H)} (h : d ∈ l) : Rows.uptoBulk d ≤ Rows.uptoBulkAll l := by
  induction l with
  | nil => simp at h
  | cons e r ih =>
    simp only [Rows.uptoBulkAll]
    rcases List.mem_cons.1 h with rfl | h
    · omega
    · have := ih h; omega
theorem bulk_slice {H : Type} {elems spare : List (DataW H)} {M : Nat} (h : Rows.uptoBulk (.slice elems spare) ≤ M) : elems.length + spare.length ≤ M := by
  have h1 := bulk_count elems
  have h2 := bulk_count spare
  simp only [Rows.uptoBulk] at h
  omega
theorem bulk_rows {H : Type} {elems spare : List (DataW H)} {M : Nat} (h : Rows.uptoBulk (.slice elems spare) ≤ M) : elems.length ≤ M ∧ ∀ x y, .slice x y ∈ elems → x.length ≤ M := by
  refine ⟨by have := bulk_slice h; omega, fun x y hm => ?_⟩
  have h1 := bulk_in hm
  simp only [Rows.uptoBulk] at h h1
  have h2 := bulk_count x
  omega
theorem bulk_small {H : Type} {l : List (DataW H)} (h : Rows.uptoSmall H l = true) : Rows.uptoBulkAll l ≤ 1048576 := of_decide_eq_true h
end Go.Proofs.Ytooilnpghcdjiaa
