/-
  Cards in a slice of the call's own that is appended to, one at a time.
-/
import Derived.Test.YtjbpnhibgafdmaaDoorProg
import Derived.Test.YtjbpnhibgafdmaaDoorCrdIn
import Derived.Laws.AppendOwn
import Derived.Laws.AppendOwnNone
import Derived.Maps.AppendAt
namespace Go.Proofs.YtjbpnhibgafdmaaDoor
open Go.RowKit
set_option linter.unusedVariables false

theorem crd_cells_length (l : List Crd) : (l.flatMap Crd.cells).length = l.length * 3 := by
  induction l with
  | nil => rfl
  | cons c r ih =>
    rw [List.flatMap_cons, List.length_append, ih, List.length_cons]
    simp [Crd.cells]
    omega
theorem crd_cells_at : ∀ (l : List Crd) (i j : Nat) (x : Crd), l[i]? = some x → j < 3 → (l.flatMap Crd.cells)[i * 3 + j]? = x.cells[j]?
  | [], i, j, x, h, _ => by simp at h
  | c :: r, 0, j, x, h, hj => by
    obtain rfl : c = x := by simpa using h
    rw [List.flatMap_cons, List.getElem?_append_left (by simp [Crd.cells]; omega)]
    simp
  | c :: r, i + 1, j, x, h, hj => by
    rw [List.flatMap_cons, List.getElem?_append_right (by simp [Crd.cells]; omega)]
    have e : (i + 1) * 3 + j - c.cells.length = i * 3 + j := by simp [Crd.cells]; omega
    rw [e]
    exact crd_cells_at r i j x (by simpa using h) hj

/-- A slice of cards of the call's own. -/
def OwnsC (w : World) (base : Nat) (v : Value) (l : List Crd) : Prop := w.ownsRow base 49 3 v l.length (l.flatMap Crd.cells)
section
variable {w w' : World} {base : Nat} {v : Value} {l : List Crd}
theorem OwnsC.mono (h : OwnsC w base v l) (o : Old w w') : OwnsC w' base v l := by
  obtain ⟨h1, h2⟩ := h
  refine ⟨h1, ?_⟩
  rcases h2 with h2 | ⟨g, cap, cur, h3, h4, h5, h6⟩
  · exact .inl h2
  · exact .inr ⟨g, cap, cur, h3, h4, (o.block g (Array.getElem?_eq_some_iff.1 h5).1).trans h5, h6⟩
theorem OwnsC.lt (h : OwnsC w base v l) {g : Nat} (hg : v.ownBlock = some g) : base ≤ g ∧ g < w.heap.size := World.ownsRow.lt h g hg
theorem OwnsC.rd (h : OwnsC w base v l) : ∃ a cap, v = .slice a l.length cap ∧ l.length ≤ cap ∧ CrdIn w a l := by
  obtain ⟨h1, h2⟩ := h
  rcases h2 with ⟨rfl, h3⟩ | ⟨g, cap, cur, rfl, h4, h5, h6, h7, h8, h9⟩
  · have : l = [] := List.eq_nil_of_length_eq_zero h3
    subst this
    exact ⟨none, 0, rfl, Nat.le_refl _, by intro i x hx; simp at hx⟩
  · refine ⟨_, cap, rfl, h6, ?_⟩
    intro i x hx
    have hil : i < l.length := (List.getElem?_eq_some_iff.1 hx).1
    have key : ∀ j u, j < 3 → x.cells[j]? = some u → w.cell? ⟨g, i * 3 + j, none⟩ = some u := by
      intro j u hj hu
      have e := crd_cells_at l i j x hx hj
      rw [hu, ← h9, List.getElem?_take, if_pos (by omega)] at e
      simp [World.cell?, h5] at e ⊢
      exact e
    exact ⟨g, 0, rfl, by simpa using key 0 _ (by omega) rfl, by simpa [Nat.zero_add] using key 1 _ (by omega) rfl, by simpa [Nat.zero_add] using key 2 _ (by omega) rfl⟩
theorem OwnsC.empty (w : World) (base : Nat) (hb : base ≤ w.heap.size) : OwnsC (w.alloc (.cells #[] 49)) base (.slice (some ⟨w.heap.size, 0, none⟩) 0 0) [] :=
  World.ownsRow_made w #[] 0 hb (Nat.zero_le _) rfl
end

section
variable {ops : Array Oper} {rest : List Oper} {o : Oper} {a : Act} {w : World} {Q : Exit → Act → World → Prop}
/-- One card more. -/
theorem wp_appendC (hgd : o.guard = none) (s x : Operand) (ho : o.op = .call { callee := .builtin .append, args := #[s, x], argTypes := #[37, 37] })
    (base : Nat) (v : Value) (l : List Crd) (hs : a.eval s = v) (hown : OwnsC w base v l) (g c : Nat) (y : Crd) (hx : a.eval x = .slice (some ⟨g, 0, none⟩) 1 c) (hy : Row w g 49 y.cells)
    (hn : l.length < 1000000) (hbase : base ≤ w.heap.size)
    (h : ∀ v' w', OwnsC w' base v' (l ++ [y]) → w.grownBy w' v.ownBlock → wpList Tryd.prog ops Q rest (a.put o.dst v') w') : wpList Tryd.prog ops Q (o :: rest) a w := by
  obtain ⟨i0, g1, g2, g3, g4⟩ := info_parts (P := Tryd.prog) (e := 49) (show (Tryd.prog.info? 49).map (fun i => (i.zero, i.size, i.bytes)) = some (some (.agg #[.int .i64 0, .int .u64 0, .int .u64 0]), 3, 24) by kernel_rfl)
  refine wpList_append_own_at w hgd s x 37 ho base 49 i0 (.agg #[.int .i64 0, .int .u64 0, .int .u64 0]) 3 24 Tryd.underlying37 g1 g2 g3 g4 rfl (by omega) v l.length (l.flatMap Crd.cells) hs hown ⟨g, 0, none⟩ 1 c y.cells hx rfl ?_ ?_ ?_ ?_ hbase ?_
  · intro j u hj
    rw [Addr.add_lit, Nat.zero_add]
    exact hy.cell hj
  · intro u hu
    simp [Crd.cells] at hu
    rcases hu with rfl | rfl | rfl <;> rfl
  · show l.length + 1 ≤ 9223372036854775807
    omega
  · have : (l.length + 1) * 24 ≤ 1000000 * 24 := Nat.mul_le_mul (by omega) (Nat.le_refl _)
    omega
  · intro v' w' h5 h6 _ h7
    refine h v' w' ?_ h6
    unfold OwnsC
    rw [List.length_append, List.flatMap_append]
    simpa using h5
end
end Go.Proofs.YtjbpnhibgafdmaaDoor
