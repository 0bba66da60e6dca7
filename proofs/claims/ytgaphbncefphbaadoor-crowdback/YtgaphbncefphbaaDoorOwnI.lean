/-
  A slice of integers of the call's own that is appended to, one at a time.
-/
import Derived.Test.YtgaphbncefphbaaDoorElem
import Derived.Laws.AppendOwn
import Derived.Laws.AppendOwnNone
namespace Go.Proofs.YtgaphbncefphbaaDoor
open Go.RowKit Pn
set_option linter.unusedVariables false

def OwnsI (w : World) (base : Nat) (v : Value) (xs : List Int) : Prop := w.ownsRow base 3 1 v xs.length (ints xs)
theorem OwnsI.mono {w w' : World} {base : Nat} {v : Value} {xs : List Int} (h : OwnsI w base v xs) (o : Old w w') : OwnsI w' base v xs := by
  obtain ⟨h1, h2⟩ := h
  refine ⟨h1, ?_⟩
  rcases h2 with h2 | ⟨g, cap, cur, h3, h4, h5, h6⟩
  · exact .inl h2
  · exact .inr ⟨g, cap, cur, h3, h4, (o.block g (Array.getElem?_eq_some_iff.1 h5).1).trans h5, h6⟩
theorem OwnsI.rd {w : World} {base : Nat} {v : Value} {xs : List Int} (h : OwnsI w base v xs) : ∃ a cap, v = .slice a xs.length cap ∧ xs.length ≤ cap ∧ Rd w a (ints xs) := by
  obtain ⟨h1, h2⟩ := h
  rcases h2 with ⟨rfl, h3⟩ | ⟨g, cap, cur, rfl, h4, h5, h6, h7, h8, h9⟩
  · have : xs = [] := List.eq_nil_of_length_eq_zero h3
    subst this
    exact ⟨none, 0, rfl, Nat.le_refl _, Rd.nil _⟩
  · refine ⟨_, cap, rfl, h6, ?_⟩
    intro i v hv
    refine ⟨g, 0, rfl, ?_⟩
    rw [← h9, List.getElem?_take] at hv
    split at hv
    · simp [World.cell?, h5] at hv ⊢
      exact hv
    · cases hv
/-- Its block, where it is not empty. -/
theorem OwnsI.row {w : World} {base : Nat} {v : Value} {xs : List Int} (h : OwnsI w base v xs) (hp : 0 < xs.length) : ∃ g cap rest, v = .slice (some ⟨g, 0, none⟩) xs.length cap ∧ base ≤ g ∧ Row w g 3 (ints xs ++ rest) := by
  obtain ⟨h1, h2⟩ := h
  rcases h2 with ⟨rfl, h3⟩ | ⟨g, cap, cur, rfl, h4, h5, h6, h7, h8, h9⟩
  · omega
  · refine ⟨g, cap, cur.toList.drop (ints xs).length, rfl, h4, ?_⟩
    have : ints xs ++ cur.toList.drop (ints xs).length = cur.toList := by
      conv => lhs; rw [show ints xs ++ cur.toList.drop (ints xs).length = cur.toList.take (ints xs).length ++ cur.toList.drop (ints xs).length by rw [ints_length, ← h9]; simp]
      exact List.take_append_drop _ _
    unfold Row
    rw [this]
    exact h5
theorem OwnsI.empty (w : World) (base : Nat) (hb : base ≤ w.heap.size) : OwnsI (w.alloc (.cells #[] 3)) base (.slice (some ⟨w.heap.size, 0, Option.none⟩) 0 0) [] :=
  World.ownsRow_made w #[] 0 hb (Nat.zero_le _) rfl
theorem OwnsI.lt {w : World} {base : Nat} {v : Value} {xs : List Int} (h : OwnsI w base v xs) {g : Nat} (hg : v.ownBlock = some g) : base ≤ g ∧ g < w.heap.size := World.ownsRow.lt h g hg
theorem Old.grownO {a b c : World} {r : Option Nat} (h : Old a b) (hg : b.grownBy c r) (hb : ∀ g, r = some g → a.heap.size ≤ g) : Old a c :=
  Below.grown h hg h.size hb

section
variable {ops : Array Oper} {rest : List Oper} {o : Oper} {a : Act} {w : World} {Q : Exit → Act → World → Prop}
theorem wp_appendI (hgd : o.guard = none) (s x : Operand) (ho : o.op = .call { callee := .builtin .append, args := #[s, x], argTypes := #[22, 22] })
    (base : Nat) (v : Value) (xs : List Int) (hs : a.eval s = v) (hown : OwnsI w base v xs) (g c : Nat) (y : Int) (hx : a.eval x = .slice (some ⟨g, 0, none⟩) 1 c) (hy : w.cell? ⟨g, 0, none⟩ = some (.int .i64 y))
    (hn : xs.length < 1099511627776) (hbase : base ≤ w.heap.size)
    (h : ∀ v' w', OwnsI w' base v' (xs ++ [y]) → w.grownBy w' v.ownBlock → wpList Tryd.prog ops Q rest (a.put o.dst v') w') : wpList Tryd.prog ops Q (o :: rest) a w := by
  obtain ⟨i0, h1, h2, h3, h4⟩ := info_parts (P := Tryd.prog) (e := 3) (show (Tryd.prog.info? 3).map (fun i => (i.zero, i.size, i.bytes)) = some (some (.int .i64 0), 1, 8) by kernel_rfl)
  refine wpList_append_own w hgd s x 22 ho base 3 i0 (.int .i64 0) 1 8 Tryd.underlying22 h1 h2 h3 h4 rfl (by omega) v xs.length (ints xs) hs hown ⟨g, 0, none⟩ 1 c [.int .i64 y] hx rfl ?_ ?_ ?_ ?_ hbase ?_
  · intro j u hj
    match j with
    | 0 => simp at hj; rw [Addr.add_lit, ← hj]; exact hy
    | j + 1 => simp at hj
  · intro u hu
    simp at hu
    subst hu; rfl
  · show xs.length + 1 ≤ 9223372036854775807
    omega
  · omega
  · intro v' w' h5 h6 _
    refine h v' w' ?_ h6
    unfold OwnsI
    rw [List.length_append]
    simpa [ints] using h5
end
end Go.Proofs.YtgaphbncefphbaaDoor
