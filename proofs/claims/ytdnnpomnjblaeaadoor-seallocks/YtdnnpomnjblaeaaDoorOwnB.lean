/-
  A slice of bytes of an object's own that is appended to.
-/
import Derived.Test.YtdnnpomnjblaeaaDoorProg
import Derived.Test.YtdnnpomnjblaeaaDoorMem
import Derived.Laws.AppendOwn
import Derived.Laws.AppendOwnNone
import Derived.Maps.AppendAt
namespace Go.Proofs.YtdnnpomnjblaeaaDoor
open Go.RowKit
set_option linter.unusedVariables false

def OwnsB (w : World) (base : Nat) (v : Value) (xs : List Nat) : Prop := w.ownsRow base 5 1 v xs.length (nums .u8 xs)
section
variable {w w' : World} {base : Nat} {v : Value} {xs : List Nat}
theorem OwnsB.none (w : World) (base : Nat) : OwnsB w base (.slice Option.none 0 0) [] := World.ownsRow_nil w base 5 1
/-- It outlasts what leaves its block alone. -/
theorem OwnsB.stay (h : OwnsB w base v xs) (hb : ∀ i, v.ownBlock = some i → w'.heap[i]? = w.heap[i]?) : OwnsB w' base v xs := by
  refine ⟨h.1, ?_⟩
  rcases h.2 with hn | ⟨g, cap, cur, rfl, h1, hg, rest⟩
  · exact .inl hn
  · exact .inr ⟨g, cap, cur, rfl, h1, (hb g rfl).trans hg, rest⟩
theorem OwnsB.mono (h : OwnsB w base v xs) (o : Old w w') : OwnsB w' base v xs := h.stay fun i hi => o.block i (World.ownsRow.lt h i hi).2
theorem OwnsB.lt (h : OwnsB w base v xs) {g : Nat} (hg : v.ownBlock = some g) : base ≤ g ∧ g < w.heap.size := World.ownsRow.lt h g hg
theorem OwnsB.grown {row : Option Nat} (h : OwnsB w base v xs) (gr : w.grownBy w' row) (hne : v.ownBlock = Option.none ∨ v.ownBlock ≠ row) : OwnsB w' base v xs := World.ownsRow.kept h gr hne
theorem OwnsB.rd (h : OwnsB w base v xs) : ∃ a cap, v = .slice a xs.length cap ∧ xs.length ≤ cap ∧ Rd w a (nums .u8 xs) := by
  obtain ⟨h1, h2⟩ := h
  rcases h2 with ⟨rfl, h3⟩ | ⟨g, cap, cur, rfl, h4, h5, h6, h7, h8, h9⟩
  · have : xs = [] := List.eq_nil_of_length_eq_zero h3
    subst this
    exact ⟨Option.none, 0, rfl, Nat.le_refl _, Rd.nil _⟩
  · refine ⟨_, cap, rfl, h6, ?_⟩
    intro i v hv
    refine ⟨g, 0, rfl, ?_⟩
    rw [← h9, List.getElem?_take] at hv
    split at hv
    · simp [World.cell?, h5] at hv ⊢
      exact hv
    · cases hv
/-- Its block, whole. -/
theorem OwnsB.row (h : OwnsB w base v xs) (hp : 0 < xs.length) : ∃ g cap rest, v = .slice (some ⟨g, 0, Option.none⟩) xs.length cap ∧ base ≤ g ∧ xs.length ≤ cap ∧ Row w g 5 (nums .u8 xs ++ rest) := by
  obtain ⟨h1, h2⟩ := h
  rcases h2 with ⟨rfl, h3⟩ | ⟨g, cap, cur, rfl, h4, h5, h6, h7, h8, h9⟩
  · omega
  · refine ⟨g, cap, cur.toList.drop (nums .u8 xs).length, rfl, h4, h6, ?_⟩
    have h10 : cur.toList.take (nums .u8 xs).length = nums .u8 xs := by
      have : (nums .u8 xs).length = xs.length * 1 := by simp [nums]
      rw [this]
      exact h9
    unfold Row
    rw [h5]
    congr 2
    conv => lhs; rw [show cur = cur.toList.toArray by simp]
    congr 1
    conv => lhs; rw [← List.take_append_drop (nums .u8 xs).length cur.toList, h10]
/-- A new one, out of a literal. -/
theorem OwnsB.empty (w : World) (base : Nat) (hb : base ≤ w.heap.size) : OwnsB (w.alloc (.cells #[] 5)) base (.slice (some ⟨w.heap.size, 0, Option.none⟩) 0 0) [] :=
  World.ownsRow_made w #[] 0 hb (Nat.zero_le _) rfl
/-- make([]byte, 0, cap). -/
theorem OwnsB.made (w : World) (base cap : Nat) (hb : base ≤ w.heap.size) (hc : cap ≤ maxLen) (cur : Array Value) (hs : cur.size = cap) : OwnsB (w.alloc (.cells cur 5)) base (.slice (some ⟨w.heap.size, 0, Option.none⟩) 0 cap) [] :=
  World.ownsRow_made w cur cap hb hc (by omega)
end

section
variable {ops : Array Oper} {rest : List Oper} {o : Oper} {a : Act} {w : World} {Q : Exit → Act → World → Prop}
/-- append(own, ys...). -/
theorem wp_appendB (hgd : o.guard = none) (s x : Operand) (ho : o.op = .call { callee := .builtin .append, args := #[s, x], argTypes := #[24, 24] })
    (base : Nat) (v : Value) (xs : List Nat) (hs : a.eval s = v) (hown : OwnsB w base v xs) (ad : Option Addr) (m c : Nat) (ys : List Nat) (hx : a.eval x = .slice ad m c) (hm : ys.length = m) (hy : Rd w ad (nums .u8 ys))
    (hn : xs.length + m < 1099511627776) (hbase : base ≤ w.heap.size)
    (h : ∀ v' w', OwnsB w' base v' (xs ++ ys) → w.grownBy w' v.ownBlock → (v'.ownBlock = v.ownBlock ∨ v'.ownBlock = some w.heap.size) → wpList Tryd.prog ops Q rest (a.put o.dst v') w') : wpList Tryd.prog ops Q (o :: rest) a w := by
  obtain ⟨i0, h1, h2, h3, h4⟩ := info_parts (P := Tryd.prog) (e := 5) (show (Tryd.prog.info? 5).map (fun i => (i.zero, i.size, i.bytes)) = some (some (.int .u8 0), 1, 1) by kernel_rfl)
  cases ad with
  | none =>
    have h0 : ys = [] := by
      cases ys with
      | nil => rfl
      | cons y r =>
        obtain ⟨_, _, e, _⟩ := hy 0 (.int .u8 (y : Int)) (by simp [nums])
        cases e
    subst h0
    have hm0 : m = 0 := by simpa using hm.symm
    subst hm0
    have ht := Tryd.underlying24
    have hrun : ∀ ty, (Builtin.append_ #[24, 24] ty #[v, .slice none 0 c]).run Tryd.prog w = .ok v w := by
      intro ty
      have hown' : w.ownsRow base 5 1 v xs.length (nums .u8 xs) := hown
      rcases hown'.2 with ⟨rfl, _⟩ | ⟨g, cap, cur, rfl, _, _, hnc, _⟩
      · simp [Builtin.append_, run_underlying ht, sizeOf, typeInfo, h1, Builtin.lenOf, Builtin.firstCells]
      · simp [Builtin.append_, run_underlying ht, sizeOf, typeInfo, h1, Builtin.lenOf, Builtin.firstCells, hnc, storeCells]
    refine wpList_plain hgd fun K hK => ?_
    unfold Oper.wp
    simp [execOp, ho, resolve, invoke, builtin, hs, hx, hrun, Result.andThen]
    exact hK _ _ (h v w (by rw [List.append_nil]; exact hown) (grown_old (Old.refl w) _) (.inl rfl))
  | some ad =>
    refine wpList_append_own_at w hgd s x 24 ho base 5 i0 (.int .u8 0) 1 1 Tryd.underlying24 h1 h2 h3 h4 rfl (by omega) v xs.length (nums .u8 xs) hs hown ad m c (nums .u8 ys) hx (by simp [nums, hm]) ?_ ?_ ?_ ?_ hbase ?_
    · intro j u hj
      obtain ⟨b, off, e, hc⟩ := hy j u hj
      cases e
      rw [Addr.add_lit]
      exact hc
    · intro u hu
      obtain ⟨z, _, rfl⟩ := List.mem_map.1 hu
      rfl
    · show xs.length + m ≤ 9223372036854775807
      omega
    · omega
    · intro v' w' h5 h6 _ h7
      refine h v' w' ?_ h6 h7
      unfold OwnsB
      rw [List.length_append, hm]
      simpa [nums] using h5
end
end Go.Proofs.YtdnnpomnjblaeaaDoor
