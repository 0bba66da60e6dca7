/-
  A slice of integers of the call's own that is appended to; where it lies then.
-/
import Derived.Test.YtepchjpdfmleoaaProg
import Derived.Test.YtepchjpdfmleoaaMem
import Derived.Test.YtepchjpdfmleoaaMgPlan
import Derived.Laws.AppendOwn
import Derived.Laws.AppendOwnNone
import Derived.Maps.AppendAt
namespace Go.Proofs.Ytepchjpdfmleoaa
open Go.RowKit Pn
set_option linter.unusedVariables false

def OwnsZ (w : World) (base : Nat) (v : Value) (xs : List Int) : Prop := w.ownsRow base 3 1 v xs.length (ints xs)
section
variable {w w' : World} {base : Nat} {v : Value} {xs : List Int}
theorem OwnsZ.none (w : World) (base : Nat) : OwnsZ w base (.slice Option.none 0 0) [] := World.ownsRow_nil w base 3 1
/-- It outlasts what leaves its block alone. -/
theorem OwnsZ.stay (h : OwnsZ w base v xs) (hb : ∀ i, v.ownBlock = some i → w'.heap[i]? = w.heap[i]?) : OwnsZ w' base v xs := by
  refine ⟨h.1, ?_⟩
  rcases h.2 with hn | ⟨g, cap, cur, rfl, h1, hg, rest⟩
  · exact .inl hn
  · exact .inr ⟨g, cap, cur, rfl, h1, (hb g rfl).trans hg, rest⟩
theorem OwnsZ.mono (h : OwnsZ w base v xs) (o : Old w w') : OwnsZ w' base v xs := h.stay fun i hi => o.block i (World.ownsRow.lt h i hi).2
theorem OwnsZ.lt (h : OwnsZ w base v xs) {g : Nat} (hg : v.ownBlock = some g) : base ≤ g ∧ g < w.heap.size := World.ownsRow.lt h g hg
theorem OwnsZ.grown {row : Option Nat} (h : OwnsZ w base v xs) (gr : w.grownBy w' row) (hne : v.ownBlock = Option.none ∨ v.ownBlock ≠ row) : OwnsZ w' base v xs := World.ownsRow.kept h gr hne
theorem OwnsZ.rd (h : OwnsZ w base v xs) : ∃ a cap, v = .slice a xs.length cap ∧ xs.length ≤ cap ∧ Rd w a (ints xs) := by
  obtain ⟨h1, h2⟩ := h
  rcases h2 with ⟨rfl, h3⟩ | ⟨g, cap, cur, rfl, h4, h5, h6, h7, h8, h9⟩
  · have : xs = [] := List.eq_nil_of_length_eq_zero h3
    subst this
    exact ⟨Option.none, 0, rfl, Nat.le_refl _, Rd.nil _⟩
  · refine ⟨_, cap, rfl, h6, ?_⟩
    intro i v hv
    refine ⟨g, 0, rfl, ?_⟩
    rw [← h9, List.getElem?_take] at hv
    split at hv
    · simp [World.cell?, h5] at hv ⊢
      exact hv
    · cases hv
/-- Its block, whole. -/
theorem OwnsZ.row (h : OwnsZ w base v xs) (hp : 0 < xs.length) : ∃ g cap rest, v = .slice (some ⟨g, 0, Option.none⟩) xs.length cap ∧ base ≤ g ∧ xs.length ≤ cap ∧ Row w g 3 (ints xs ++ rest) := by
  obtain ⟨h1, h2⟩ := h
  rcases h2 with ⟨rfl, h3⟩ | ⟨g, cap, cur, rfl, h4, h5, h6, h7, h8, h9⟩
  · omega
  · refine ⟨g, cap, cur.toList.drop (ints xs).length, rfl, h4, h6, ?_⟩
    have h10 : cur.toList.take (ints xs).length = ints xs := by
      have : (ints xs).length = xs.length * 1 := by simp [ints]
      rw [this]
      exact h9
    unfold Row
    rw [h5]
    congr 2
    conv => lhs; rw [show cur = cur.toList.toArray by simp]
    congr 1
    conv => lhs; rw [← List.take_append_drop (ints xs).length cur.toList, h10]
/-- A new one, out of a literal. -/
theorem OwnsZ.empty (w : World) (base : Nat) (hb : base ≤ w.heap.size) : OwnsZ (w.alloc (.cells #[] 3)) base (.slice (some ⟨w.heap.size, 0, Option.none⟩) 0 0) [] :=
  World.ownsRow_made w #[] 0 hb (Nat.zero_le _) rfl
/-- make([]int, 0, cap). -/
theorem OwnsZ.made (w : World) (base cap : Nat) (hb : base ≤ w.heap.size) (hc : cap ≤ maxLen) (cur : Array Value) (hs : cur.size = cap) : OwnsZ (w.alloc (.cells cur 3)) base (.slice (some ⟨w.heap.size, 0, Option.none⟩) 0 cap) [] :=
  World.ownsRow_made w cur cap hb hc (by omega)
end

section
variable {ops : Array Oper} {rest : List Oper} {o : Oper} {a : Act} {w : World} {Q : Exit → Act → World → Prop}
/-- append(own, ys...). -/
theorem wp_appendZ (hgd : o.guard = none) (s x : Operand) (ho : o.op = .call { callee := .builtin .append, args := #[s, x], argTypes := #[26, 26] })
    (base : Nat) (v : Value) (xs : List Int) (hs : a.eval s = v) (hown : OwnsZ w base v xs) (ad : Option Addr) (m c : Nat) (ys : List Int) (hx : a.eval x = .slice ad m c) (hm : ys.length = m) (hy : Rd w ad (ints ys)) (hz : ad = none → c = 0)
    (hn : xs.length + m < 1099511627776) (hbase : base ≤ w.heap.size)
    (h : ∀ v' w', OwnsZ w' base v' (xs ++ ys) → w.grownBy w' v.ownBlock → (v'.ownBlock = v.ownBlock ∨ v'.ownBlock = some w.heap.size) → wpList Try.prog ops Q rest (a.put o.dst v') w') : wpList Try.prog ops Q (o :: rest) a w := by
  obtain ⟨i0, h1, h2, h3, h4⟩ := info_parts (P := Try.prog) (e := 3) (show (Try.prog.info? 3).map (fun i => (i.zero, i.size, i.bytes)) = some (some (.int .i64 0), 1, 8) by kernel_rfl)
  cases ad with
  | none =>
    have h0 : ys = [] := by
      cases ys with
      | nil => rfl
      | cons y r =>
        obtain ⟨_, _, e, _⟩ := hy 0 (.int .i64 (y : Int)) (by simp [ints])
        cases e
    subst h0
    have hm0 : m = 0 := by simpa using hm.symm
    have hc0 := hz rfl
    subst hm0 hc0
    refine wpList_append_own_none hgd s x 26 ho base 3 i0 1 Try.underlying26 h1 v xs.length (ints xs) hs hown hx ?_
    exact h v w (by rw [List.append_nil]; exact hown) (grown_old (Old.refl w) _) (.inl rfl)
  | some ad =>
    refine wpList_append_own_at w hgd s x 26 ho base 3 i0 (.int .i64 0) 1 8 Try.underlying26 h1 h2 h3 h4 rfl (by omega) v xs.length (ints xs) hs hown ad m c (ints ys) hx (by simp [ints, hm]) ?_ ?_ ?_ ?_ hbase ?_
    · intro j u hj
      obtain ⟨b, off, e, hc⟩ := hy j u hj
      cases e
      rw [Addr.add_lit]
      exact hc
    · intro u hu
      obtain ⟨z, _, rfl⟩ := List.mem_map.1 hu
      rfl
    · show xs.length + m ≤ 9223372036854775807
      omega
    · omega
    · intro v' w' h5 h6 _ h7
      refine h v' w' ?_ h6 h7
      unfold OwnsZ
      rw [List.length_append, hm]
      simpa [ints] using h5
end
end Go.Proofs.Ytepchjpdfmleoaa
