/-
  A slice of numbers of the call's own that is appended to, one at a time.
-/
import Derived.Test.YtdnnpomnjblaeaaDoorProg
import Derived.Test.YtdnnpomnjblaeaaDoorMem
import Derived.Laws.AppendOwn
import Derived.Laws.AppendOwnNone
namespace Go.Proofs.YtdnnpomnjblaeaaDoor
open Go.RowKit
set_option linter.unusedVariables false

/-- A slice of the call's own, that may be appended to. -/
def Owns (w : World) (base : Nat) (e : TypeId) (k : IntKind) (v : Value) (xs : List Nat) : Prop := w.ownsRow base e 1 v xs.length (nums k xs)
theorem Owns.mono {w w' : World} {base : Nat} {e : TypeId} {k : IntKind} {v : Value} {xs : List Nat} (h : Owns w base e k v xs) (o : Old w w') : Owns w' base e k v xs := by
  obtain ⟨h1, h2⟩ := h
  refine ⟨h1, ?_⟩
  rcases h2 with h2 | ⟨g, cap, cur, h3, h4, h5, h6⟩
  · exact .inl h2
  · exact .inr ⟨g, cap, cur, h3, h4, (o.block g (Array.getElem?_eq_some_iff.1 h5).1).trans h5, h6⟩
theorem Owns.rd {w : World} {base : Nat} {e : TypeId} {k : IntKind} {v : Value} {xs : List Nat} (h : Owns w base e k v xs) : ∃ a cap, v = .slice a xs.length cap ∧ xs.length ≤ cap ∧ Rd w a (nums k xs) := by
  obtain ⟨h1, h2⟩ := h
  rcases h2 with ⟨rfl, h3⟩ | ⟨g, cap, cur, rfl, h4, h5, h6, h7, h8, h9⟩
  · have : xs = [] := List.eq_nil_of_length_eq_zero h3
    subst this
    exact ⟨none, 0, rfl, Nat.le_refl _, Rd.nil _⟩
  · refine ⟨_, cap, rfl, h6, ?_⟩
    intro i v hv
    refine ⟨g, 0, rfl, ?_⟩
    rw [← h9, List.getElem?_take] at hv
    split at hv
    · simp [World.cell?, h5] at hv ⊢
      exact hv
    · cases hv
theorem Owns.none (w : World) (base : Nat) (e : TypeId) (k : IntKind) : Owns w base e k (.slice Option.none 0 0) [] := World.ownsRow_nil w base e 1
theorem Owns.empty (w : World) (base : Nat) (e : TypeId) (k : IntKind) (hb : base ≤ w.heap.size) : Owns (w.alloc (.cells #[] e)) base e k (.slice (some ⟨w.heap.size, 0, Option.none⟩) 0 0) [] :=
  World.ownsRow_made w #[] 0 hb (Nat.zero_le _) rfl

theorem Owns.lt {w : World} {base : Nat} {e : TypeId} {k : IntKind} {v : Value} {xs : List Nat} (h : Owns w base e k v xs) {g : Nat} (hg : v.ownBlock = some g) : base ≤ g ∧ g < w.heap.size := World.ownsRow.lt h g hg
theorem Old.grown' {a b c : World} {r : Option Nat} (h : Old a b) (hg : b.grownBy c r) (hb : ∀ g, r = some g → a.heap.size ≤ g) : Old a c :=
  Below.grown h hg h.size hb

section
variable {P : Program} {ops : Array Oper} {rest : List Oper} {o : Oper} {a : Act} {w : World} {Q : Exit → Act → World → Prop}
/-- One number more. -/
theorem wp_append1 (hgd : o.guard = none) (s x : Operand) (t : TypeId) (ho : o.op = .call { callee := .builtin .append, args := #[s, x], argTypes := #[t, t] })
    (base : Nat) (e : TypeId) (k : IntKind) (B : Nat) (ht : P.underlying t = some (.slice e)) (hi : (P.info? e).map (fun i => (i.zero, i.size, i.bytes)) = some (some (.int k 0), 1, B)) (hB : B ≤ 8)
    (v : Value) (xs : List Nat) (hs : a.eval s = v) (hown : Owns w base e k v xs) (g c : Nat) (y : Nat) (hx : a.eval x = .slice (some ⟨g, 0, none⟩) 1 c) (hy : w.cell? ⟨g, 0, none⟩ = some (.int k (y : Nat)))
    (hn : xs.length < 1099511627776) (hbase : base ≤ w.heap.size)
    (h : ∀ v' w', Owns w' base e k v' (xs ++ [y]) → w.grownBy w' v.ownBlock → wpList P ops Q rest (a.put o.dst v') w') : wpList P ops Q (o :: rest) a w := by
  obtain ⟨i0, h1, h2, h3, h4⟩ := info_parts hi
  refine wpList_append_own w hgd s x t ho base e i0 (.int k 0) 1 B ht h1 h2 h3 h4 rfl (by omega) v xs.length (nums k xs) hs hown ⟨g, 0, none⟩ 1 c [.int k (y : Nat)] hx rfl ?_ ?_ ?_ ?_ hbase ?_
  · intro j u hj
    match j with
    | 0 => simp at hj; rw [Addr.add_lit, ← hj]; exact hy
    | j + 1 => simp at hj
  · intro u hu
    simp at hu
    subst hu; rfl
  · show xs.length + 1 ≤ 9223372036854775807
    omega
  · have : (xs.length + 1) * B ≤ 1099511627776 * 8 := Nat.mul_le_mul (by omega) hB
    omega
  · intro v' w' h5 h6 _
    refine h v' w' ?_ h6
    unfold Owns
    rw [List.length_append]
    simpa [nums] using h5
end
end Go.Proofs.YtdnnpomnjblaeaaDoor
