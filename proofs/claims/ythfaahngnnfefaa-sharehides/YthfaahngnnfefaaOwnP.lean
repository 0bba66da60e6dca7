/-
  Points as cells; a slice of points of the call's own, that may be appended to.
-/
import Derived.Test.YthfaahngnnfefaaPolyC
import Derived.Laws.AppendOwn
namespace Go.Proofs.Ythfaahngnnfefaa
open Go.RowKit M Pm
set_option linter.unusedVariables false

/-- Points as cells; a slice of the call's own, that may be appended to. -/
def cellsP (ps : List Pt) : List Value := ps.flatMap fun p => [.int .i64 p.1, .int .u64 (p.2 : Nat)]
theorem cellsP_length (ps : List Pt) : (cellsP ps).length = ps.length * 2 := by
  induction ps with
  | nil => rfl
  | cons p r ih =>
    simp only [cellsP, List.flatMap_cons, List.length_append, List.length_cons, List.length_nil] at ih ⊢
    omega
theorem cellsP_get : ∀ (ps : List Pt) (i : Nat) (p : Pt), ps[i]? = some p → (cellsP ps)[i * 2]? = some (.int .i64 p.1) ∧ (cellsP ps)[i * 2 + 1]? = some (.int .u64 (p.2 : Nat))
  | [], i, p, h => by simp at h
  | q :: r, 0, p, h => by
    simp at h; subst h
    simp [cellsP]
  | q :: r, i + 1, p, h => by
    have ih := cellsP_get r i p (by simpa using h)
    have e : cellsP (q :: r) = .int .i64 q.1 :: .int .u64 (q.2 : Nat) :: cellsP r := rfl
    rw [e, show (i + 1) * 2 = i * 2 + 1 + 1 by omega, show (i * 2 + 1 + 1 + 1) = (i * 2 + 1) + 1 + 1 by omega]
    simpa using ih
def OwnsP (w : World) (base : Nat) (e : TypeId) (v : Value) (ps : List Pt) : Prop := w.ownsRow base e 2 v ps.length (cellsP ps)
theorem OwnsP.mono {w w' : World} {base : Nat} {e : TypeId} {v : Value} {ps : List Pt} (h : OwnsP w base e v ps) (o : Old w w') : OwnsP w' base e v ps := by
  obtain ⟨h1, h2⟩ := h
  refine ⟨h1, ?_⟩
  rcases h2 with h2 | ⟨g, cap, cur, h3, h4, h5, h6⟩
  · exact .inl h2
  · exact .inr ⟨g, cap, cur, h3, h4, (o.block g (Array.getElem?_eq_some_iff.1 h5).1).trans h5, h6⟩
theorem OwnsP.lt {w : World} {base : Nat} {e : TypeId} {v : Value} {ps : List Pt} (h : OwnsP w base e v ps) {g : Nat} (hg : v.ownBlock = some g) : base ≤ g ∧ g < w.heap.size := World.ownsRow.lt h g hg
theorem OwnsP.empty (w : World) (base : Nat) (e : TypeId) (hb : base ≤ w.heap.size) : OwnsP (w.alloc (.cells #[] e)) base e (.slice (some ⟨w.heap.size, 0, Option.none⟩) 0 0) [] :=
  World.ownsRow_made w #[] 0 hb (Nat.zero_le _) rfl
theorem OwnsP.pts {w : World} {base : Nat} {e : TypeId} {v : Value} {ps : List Pt} (h : OwnsP w base e v ps) (hb : ∀ p ∈ ps, -9223372036854775808 ≤ p.1 ∧ p.1 ≤ 9223372036854775807 ∧ p.2 < 18446744073709551616) : ∃ a cap, v = .slice a ps.length cap ∧ PtsOf w a ps.length cap ps := by
  obtain ⟨h1, h2⟩ := h
  rcases h2 with ⟨rfl, h3⟩ | ⟨g, cap, cur, rfl, h4, h5, h6, h7, h8, h9⟩
  · have : ps = [] := List.eq_nil_of_length_eq_zero h3
    subst this
    exact ⟨none, 0, rfl, rfl, Nat.le_refl _, hb, by intro i p hp; simp at hp⟩
  · refine ⟨_, cap, rfl, rfl, h6, hb, ?_⟩
    intro i p hp
    obtain ⟨c1, c2⟩ := cellsP_get ps i p hp
    have key : ∀ j v, (cellsP ps)[j]? = some v → w.cell? ⟨g, j, none⟩ = some v := by
      intro j v hv
      rw [← h9, List.getElem?_take] at hv
      split at hv
      · simp [World.cell?, h5] at hv ⊢
        exact hv
      · cases hv
    exact ⟨g, 0, rfl, by rw [Nat.zero_add]; exact key _ _ c1, by rw [Nat.zero_add]; exact key _ _ c2⟩

section
variable {P : Program} {ops : Array Oper} {rest : List Oper} {o : Oper} {a : Act} {w : World} {Q : Exit → Act → World → Prop}
/-- One point more. -/
theorem wp_appendP (hgd : o.guard = none) (s x : Operand) (t : TypeId) (ho : o.op = .call { callee := .builtin .append, args := #[s, x], argTypes := #[t, t] })
    (base : Nat) (e : TypeId) (ht : P.underlying t = some (.slice e)) (hi : (P.info? e).map (fun i => (i.zero, i.size, i.bytes)) = some (some (.agg #[.int .i64 0, .int .u64 0]), 2, 16))
    (v : Value) (ps : List Pt) (hs : a.eval s = v) (hown : OwnsP w base e v ps) (g c : Nat) (p : Pt) (hx : a.eval x = .slice (some ⟨g, 0, none⟩) 1 c) (hy : Row w g e [.int .i64 p.1, .int .u64 (p.2 : Nat)])
    (hn : ps.length < 1099511627776) (hbase : base ≤ w.heap.size)
    (h : ∀ v' w', OwnsP w' base e v' (ps ++ [p]) → w.grownBy w' v.ownBlock → wpList P ops Q rest (a.put o.dst v') w') : wpList P ops Q (o :: rest) a w := by
  obtain ⟨i0, h1, h2, h3, h4⟩ := info_parts hi
  refine wpList_append_own w hgd s x t ho base e i0 (.agg #[.int .i64 0, .int .u64 0]) 2 16 ht h1 h2 h3 h4 rfl (by omega) v ps.length (cellsP ps) hs hown ⟨g, 0, none⟩ 1 c [.int .i64 p.1, .int .u64 (p.2 : Nat)] hx rfl ?_ ?_ ?_ ?_ hbase ?_
  · intro j u hj
    rw [Addr.add_lit, Nat.zero_add]
    exact hy.cell hj
  · intro u hu
    simp at hu
    rcases hu with rfl | rfl <;> rfl
  · show ps.length + 1 ≤ 9223372036854775807
    omega
  · omega
  · intro v' w' h5 h6 _
    refine h v' w' ?_ h6
    unfold OwnsP
    rw [List.length_append]
    simpa [cellsP] using h5
end
end Go.Proofs.Ythfaahngnnfefaa
