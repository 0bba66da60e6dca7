/-
  Marks in a slice of the call's own: appended to, cut, laid behind one another.
-/
import Derived.Test.YtnmigdcedcmbkaaProg
import Derived.Test.YtnmigdcedcmbkaaBellN
import Derived.Test.YtnmigdcedcmbkaaMem
import Derived.Test.YtnmigdcedcmbkaaSsz
import Derived.Laws.AppendOwn
import Derived.Laws.AppendOwnNone
import Derived.Maps.AppendAt
import Derived.Deep.AppendSrc
import Derived.Deep.Upon
namespace Go.Proofs.Ytnmigdcedcmbkaa
open Go.RowKit Bl
set_option linter.unusedVariables false

/-- A mark's cells. -/
def mkCells (c : Mk) : List Value := [.int .i64 c.1, .int .i64 c.2]
/-- Behind the address a lie these marks. -/
def MkIn (w : World) (a : Option Addr) (l : List Mk) : Prop :=
  ∀ (i : Nat) (x : Mk), l[i]? = some x → ∃ b off, a = some ⟨b, off, none⟩ ∧ w.cell? ⟨b, off + i * 2, none⟩ = some (.int .i64 x.1) ∧ w.cell? ⟨b, off + i * 2 + 1, none⟩ = some (.int .i64 x.2)
theorem MkIn.mono {w w' : World} {a : Option Addr} {l : List Mk} (h : MkIn w a l) (o : Old w w') : MkIn w' a l := by
  intro i x hx
  obtain ⟨b, off, ha, h1, h2⟩ := h i x hx
  exact ⟨b, off, ha, (Below.cell o (World.block_lt_of_cell? w _ h1)).trans h1, (Below.cell o (World.block_lt_of_cell? w _ h2)).trans h2⟩
theorem MkIn.take {w : World} {a : Option Addr} {l : List Mk} (h : MkIn w a l) (n : Nat) : MkIn w a (l.take n) := by
  intro i x hx
  rw [List.getElem?_take] at hx
  split at hx
  · exact h i x hx
  · cases hx

theorem mk_cells_length (l : List Mk) : (l.flatMap mkCells).length = l.length * 2 := by
  induction l with
  | nil => rfl
  | cons c r ih =>
    rw [List.flatMap_cons, List.length_append, ih, List.length_cons]
    simp [mkCells]
    omega
theorem mk_cells_at : ∀ (l : List Mk) (i j : Nat) (x : Mk), l[i]? = some x → j < 2 → (l.flatMap mkCells)[i * 2 + j]? = (mkCells x)[j]?
  | [], i, j, x, h, _ => by simp at h
  | c :: r, 0, j, x, h, hj => by
    obtain rfl : c = x := by simpa using h
    rw [List.flatMap_cons, List.getElem?_append_left (by simp [mkCells]; omega)]
    simp
  | c :: r, i + 1, j, x, h, hj => by
    rw [List.flatMap_cons, List.getElem?_append_right (by simp [mkCells]; omega)]
    have e : (i + 1) * 2 + j - (mkCells c).length = i * 2 + j := by simp [mkCells]; omega
    rw [e]
    exact mk_cells_at r i j x (by simpa using h) hj

/-- A slice of cards of the call's own. -/
def OwnsM (w : World) (base : Nat) (v : Value) (l : List Mk) : Prop := w.ownsRow base 30 2 v l.length (l.flatMap mkCells)
section
variable {w w' : World} {base : Nat} {v : Value} {l : List Mk}
theorem OwnsM.mono (h : OwnsM w base v l) (o : Old w w') : OwnsM w' base v l := by
  obtain ⟨h1, h2⟩ := h
  refine ⟨h1, ?_⟩
  rcases h2 with h2 | ⟨g, cap, cur, h3, h4, h5, h6⟩
  · exact .inl h2
  · exact .inr ⟨g, cap, cur, h3, h4, (o.block g (Array.getElem?_eq_some_iff.1 h5).1).trans h5, h6⟩
theorem OwnsM.lt (h : OwnsM w base v l) {g : Nat} (hg : v.ownBlock = some g) : base ≤ g ∧ g < w.heap.size := World.ownsRow.lt h g hg
theorem OwnsM.rd (h : OwnsM w base v l) : ∃ a cap, v = .slice a l.length cap ∧ l.length ≤ cap ∧ MkIn w a l := by
  obtain ⟨h1, h2⟩ := h
  rcases h2 with ⟨rfl, h3⟩ | ⟨g, cap, cur, rfl, h4, h5, h6, h7, h8, h9⟩
  · have : l = [] := List.eq_nil_of_length_eq_zero h3
    subst this
    exact ⟨none, 0, rfl, Nat.le_refl _, by intro i x hx; simp at hx⟩
  · refine ⟨_, cap, rfl, h6, ?_⟩
    intro i x hx
    have hil : i < l.length := (List.getElem?_eq_some_iff.1 hx).1
    have key : ∀ j u, j < 2 → (mkCells x)[j]? = some u → w.cell? ⟨g, i * 2 + j, none⟩ = some u := by
      intro j u hj hu
      have e := mk_cells_at l i j x hx hj
      rw [hu, ← h9, List.getElem?_take, if_pos (by omega)] at e
      simp [World.cell?, h5] at e ⊢
      exact e
    exact ⟨g, 0, rfl, by simpa using key 0 _ (by omega) rfl, by simpa [Nat.zero_add] using key 1 _ (by omega) rfl⟩
/-- Its block, where it is not empty. -/
theorem OwnsM.row (h : OwnsM w base v l) (hp : 0 < l.length) : ∃ g cap rest, v = .slice (some ⟨g, 0, none⟩) l.length cap ∧ base ≤ g ∧ l.length ≤ cap ∧ cap ≤ maxLen ∧ (l.flatMap mkCells ++ rest).length = cap * 2 ∧ Row w g 30 (l.flatMap mkCells ++ rest) := by
  obtain ⟨h1, h2⟩ := h
  rcases h2 with ⟨rfl, h3⟩ | ⟨g, cap, cur, rfl, h4, h5, h6, h7, h8, h9⟩
  · omega
  · have e : l.flatMap mkCells ++ cur.toList.drop (l.flatMap mkCells).length = cur.toList := by
      conv => lhs; rw [show l.flatMap mkCells ++ cur.toList.drop (l.flatMap mkCells).length = cur.toList.take (l.flatMap mkCells).length ++ cur.toList.drop (l.flatMap mkCells).length by rw [mk_cells_length, ← h9]]
      exact List.take_append_drop _ _
    refine ⟨g, cap, cur.toList.drop (l.flatMap mkCells).length, rfl, h4, h6, h7, ?_, ?_⟩
    · rw [e]
      simpa using h8
    · unfold Row
      rw [e]
      exact h5
theorem mk_cells_set (l : List Mk) (k : Nat) (x : Mk) (hk : k < l.length) : (l.set k (l[k].1, x.2)).flatMap mkCells = (l.flatMap mkCells).set (k * 2 + 1) (.int .i64 x.2) := by
  induction l generalizing k with
  | nil => simp at hk
  | cons c r ih =>
    cases k with
    | zero => simp [mkCells]
    | succ k =>
      have := ih k (by simpa using hk)
      simp only [List.set_cons_succ, List.flatMap_cons, List.getElem_cons_succ]
      rw [this, show mkCells c = [.int .i64 c.1, .int .i64 c.2] from rfl, show (k + 1) * 2 + 1 = k * 2 + 1 + 1 + 1 by omega]
      simp
/-- One mark is set anew. -/
theorem OwnsM.setAt {g cap : Nat} {rest : List Value} (hv : v = .slice (some ⟨g, 0, none⟩) l.length cap) (hb : base ≤ g) (h6 : l.length ≤ cap) (h7 : cap ≤ maxLen) (h8 : (l.flatMap mkCells ++ rest).length = cap * 2) (R : Row w g 30 (l.flatMap mkCells ++ rest)) (k : Nat) (hk : k < l.length) (t : Int) :
    OwnsM (w.setCell ⟨g, k * 2 + 1, none⟩ (.int .i64 t)) base v (l.set k (l[k].1, t)) := by
  subst hv
  have R2 := R.set (k * 2 + 1) (.int .i64 t)
  rw [List.set_append_left _ _ (by rw [mk_cells_length]; omega), ← mk_cells_set l k (0, t) hk] at R2
  have e := mk_cells_length (l.set k (l[k].1, t))
  rw [List.length_set] at e
  refine ⟨by rw [e, List.length_set], .inr ⟨g, cap, _, by rw [List.length_set], hb, R2, by rw [List.length_set]; exact h6, h7, ?_, ?_⟩⟩
  · simp only [List.size_toArray]
    rw [List.length_append, e]
    rw [List.length_append, mk_cells_length] at h8
    exact h8
  · rw [List.length_set]
    simp only
    rw [← e, List.take_left]
theorem OwnsM.empty (w : World) (base : Nat) (hb : base ≤ w.heap.size) : OwnsM (w.alloc (.cells #[] 30)) base (.slice (some ⟨w.heap.size, 0, none⟩) 0 0) [] :=
  World.ownsRow_made w #[] 0 hb (Nat.zero_le _) rfl
end

section
variable {ops : Array Oper} {rest : List Oper} {o : Oper} {a : Act} {w : World} {Q : Exit → Act → World → Prop}
/-- One card more. -/
theorem wp_appendM (hgd : o.guard = none) (s x : Operand) (ho : o.op = .call { callee := .builtin .append, args := #[s, x], argTypes := #[26, 26] })
    (base : Nat) (v : Value) (l : List Mk) (hs : a.eval s = v) (hown : OwnsM w base v l) (g c : Nat) (y : Mk) (hx : a.eval x = .slice (some ⟨g, 0, none⟩) 1 c) (hy : Row w g 30 (mkCells y))
    (hn : l.length < 1000000) (hbase : base ≤ w.heap.size)
    (h : ∀ v' w', OwnsM w' base v' (l ++ [y]) → w.grownBy w' v.ownBlock → (∀ q, v'.ownBlock = some q → v.ownBlock = some q ∨ w.heap.size ≤ q) → wpList Try.prog ops Q rest (a.put o.dst v') w') : wpList Try.prog ops Q (o :: rest) a w := by
  obtain ⟨i0, g1, g2, g3, g4⟩ := info_parts (P := Try.prog) (e := 30) (show (Try.prog.info? 30).map (fun i => (i.zero, i.size, i.bytes)) = some (some (.agg #[.int .i64 0, .int .i64 0]), 2, 16) by kernel_rfl)
  refine wpList_append_own_at w hgd s x 26 ho base 30 i0 (.agg #[.int .i64 0, .int .i64 0]) 2 16 Try.underlying26 g1 g2 g3 g4 rfl (by omega) v l.length (l.flatMap mkCells) hs hown ⟨g, 0, none⟩ 1 c (mkCells y) hx rfl ?_ ?_ ?_ ?_ hbase ?_
  · intro j u hj
    rw [Addr.add_lit, Nat.zero_add]
    exact hy.cell hj
  · intro u hu
    simp [mkCells] at hu
    rcases hu with rfl | rfl <;> rfl
  · show l.length + 1 ≤ 9223372036854775807
    omega
  · have : (l.length + 1) * 16 ≤ 1000000 * 16 := Nat.mul_le_mul (by omega) (Nat.le_refl _)
    omega
  · intro v' w' h5 h6 _ h7
    refine h v' w' ?_ h6 (fun q hq => by rcases h7 with e | e <;> rw [e] at hq; exact .inl hq; exact .inr (by cases hq; exact Nat.le_refl _))
    unfold OwnsM
    rw [List.length_append, List.flatMap_append]
    simpa using h5
end
theorem info_mark : (Try.prog.info? 30).map (fun i => (i.zero, i.size, i.bytes)) = some (some (.agg #[.int .i64 0, .int .i64 0]), 2, 16) := by kernel_rfl
/-- The cells behind a slice of cards. -/
theorem mk_src {w : World} {b off : Nat} {l : List Mk} (h : MkIn w (some ⟨b, off, none⟩) l) : ∀ j u, (l.flatMap mkCells)[j]? = some u → w.cell? ((⟨b, off, none⟩ : Addr).add j) = some u := by
  intro j u hu
  have hj : j < l.length * 2 := by rw [← mk_cells_length]; exact (List.getElem?_eq_some_iff.1 hu).1
  have hi : j / 2 < l.length := by omega
  have hr : j % 2 < 2 := Nat.mod_lt _ (by decide)
  obtain ⟨b', off', ha, h1, h2⟩ := h (j / 2) l[j / 2] (List.getElem?_eq_getElem hi)
  cases Option.some.inj ha
  have e := mk_cells_at l (j / 2) (j % 2) _ (List.getElem?_eq_getElem hi) hr
  rw [show j / 2 * 2 + j % 2 = j by omega, hu] at e
  rw [Addr.add_lit]
  rcases (by omega : j % 2 = 0 ∨ j % 2 = 1) with q | q
  · rw [q] at e
    rw [e, show off + j = off + j / 2 * 2 by omega, h1]
    rfl
  · rw [q] at e
    rw [e, show off + j = off + j / 2 * 2 + 1 by omega, h2]
    rfl
theorem mk_one (l : List Mk) : ∀ u ∈ l.flatMap mkCells, u.oneCell' = true := by
  intro u hu
  obtain ⟨c, _, hc⟩ := List.mem_flatMap.1 hu
  simp [mkCells] at hc
  rcases hc with rfl | rfl <;> rfl
theorem MkIn.drop {w : World} {b off : Nat} {l : List Mk} (h : MkIn w (some ⟨b, off, none⟩) l) (k : Nat) : MkIn w (some ⟨b, off + k * 2, none⟩) (l.drop k) := by
  intro i x hx
  rw [List.getElem?_drop] at hx
  obtain ⟨b', off', ha, h1, h2⟩ := h _ x hx
  cases Option.some.inj ha
  refine ⟨b, off + k * 2, rfl, ?_, ?_⟩
  · rw [show off + k * 2 + i * 2 = off + (k + i) * 2 by omega]; exact h1
  · rw [show off + k * 2 + i * 2 + 1 = off + (k + i) * 2 + 1 by omega]; exact h2

/-- A slice of cards of the call's own, in a region. -/
def ownM (B : Nat) (l : List Mk) : Ssx.XP Old := ⟨fun v w => OwnsM w B v l, fun _ _ _ h o => h.mono o⟩
def own0M (B : Nat) : Ssx.XP Old := ⟨fun v w => (∃ g, v = .slice (some ⟨g, 0, none⟩) 0 0) ∧ OwnsM w B v [], fun _ _ _ h o => ⟨h.1, h.2.mono o⟩⟩

section
variable {C : World → Prop} {Ok : Tmp → Value → World → Prop} {o : Oper} {d : Tmp}
theorem bld0M {B : Nat} (hB : ∀ w, C w → B ≤ w.heap.size) (hCo : ∀ w w', C w → Old w w' → C w') (ho : o.op = .buildSlice 26 0 #[]) (hd : o.dst = some d) (h : ∀ v w, (own0M B).p v w → Ok d v w) : Ssb.Good Try.prog C Old Ok o :=
  Ssx.step hd fun a w hc hop => ⟨.slice (some ⟨w.heap.size, 0, none⟩) 0 0, w.alloc (.cells #[] 30), by
    unfold execOp
    simp [ho, go_sem], hCo _ _ hc (Old.of_alloc _ _), Old.of_alloc _ _, h _ _ ⟨⟨_, rfl⟩, OwnsM.empty w B (hB w hc)⟩⟩
theorem app0M {B : Nat} (hB : ∀ w, C w → B ≤ w.heap.size) (hCo : ∀ w w', C w → Old w w' → C w') {s y : Tmp} (ho : o.op = .call { callee := .builtin .append, args := #[.tmp s, .tmp y], argTypes := #[26, 26] }) (hd : o.dst = some d)
    (ad : Addr) (m ck : Nat) (l : List Mk) (hl : l.length = m) (hsm : m ≤ 1000000) (hs : ∀ v w, Ok s v w → (own0M B).p v w) (hy : ∀ v w, Ok y v w → v = .slice (some ad) m ck)
    (hsrc : ∀ w, C w → ∀ j u, (l.flatMap mkCells)[j]? = some u → w.cell? (ad.add j) = some u) (h : ∀ v w, OwnsM w B v l → Ok d v w) : Ssb.Good Try.prog C Old Ok o := by
  refine Ssx.step hd fun a w hC hop => ?_
  obtain ⟨⟨g, h1⟩, h2⟩ := hs _ _ (hop s (by rw [ho]; simp [Op.operands, Call.operands]))
  have h3 := hy _ _ (hop y (by rw [ho]; simp [Op.operands, Call.operands]))
  obtain ⟨i0, g1, g2, g3, g4⟩ := info_parts (P := Try.prog) (e := 30) info_mark
  rw [h1] at h2
  rcases Nat.eq_zero_or_pos m with hm | hm
  · subst hm
    have hl0 : l = [] := List.eq_nil_of_length_eq_zero hl
    subst hl0
    have src : Src Try.prog i0.size 26 (.slice (some ad) 0 ck) 0 [] w := Src.ofSlice w Try.underlying26 ad 0 ck [] (by simp) (fun j u hj => by simp at hj) (by simp)
    have hrun := fun ty => run_append_nothing w 26 26 ty 30 i0 Try.underlying26 g1 (some ⟨g, 0, none⟩) 0 0 (Nat.le_refl _) (.slice (some ad) 0 ck) src
    refine ⟨.slice (some ⟨g, 0, none⟩) 0 0, w, ?_, hC, Old.refl _, h _ _ h2⟩
    simp [execOp, ho, resolve, invoke, builtin, h1, h3, hrun, Result.andThen]
  · have hlen : (l.flatMap mkCells).length = m * i0.size := by rw [mk_cells_length, hl, g3]
    have hr := fun ty => run_append_grow (P := Try.prog) w 26 ty 30 i0 (.agg #[.int .i64 0, .int .i64 0]) Try.underlying26 g1 g2 ⟨g, 0, none⟩ 0 0 [] (by simp) (by simp) ad m ck (l.flatMap mkCells) hlen (hsrc w hC) (by omega) (by omega) (growslice_fits (by omega) (by rw [g4]; omega))
    obtain ⟨v', w', hr1, ow, -, -, -⟩ := run_append_own_at (P := Try.prog) w B 26 o.type 30 i0 (.agg #[.int .i64 0, .int .i64 0]) 2 16 Try.underlying26 g1 g2 g3 g4 rfl (by omega) (.slice (some ⟨g, 0, none⟩) 0 0) 0 [] h2 ad m ck (l.flatMap mkCells) (by rw [mk_cells_length, hl]) (hsrc w hC) (mk_one l) (by show 0 + m ≤ 9223372036854775807; omega) (by omega) (hB w hC)
    have hr2 := hr o.type
    rw [hr1] at hr2
    injection hr2 with e1 e2
    have O : Old w w' := by rw [e2]; exact (Old.refl w).drew.alloc _
    refine ⟨v', w', ?_, hCo _ _ hC O, O, h _ _ ?_⟩
    · simp [execOp, ho, resolve, invoke, builtin, h1, h3, hr1, Result.andThen]
    · unfold OwnsM
      rw [hl]
      simpa using ow
end

section
variable {o : Oper} {ρ : Operand → Value} {x y : Operand}
theorem cutM_h {ad : Addr} {n cap i : Nat} (hi : i ≤ cap) (ho : o.op = .slice 26 x none (some y) none) (hx : ρ x = .slice (some ad) n cap) (hy : ρ y = .int .i64 (i : Nat)) (w : World) : (execOp ρ o).run Try.prog w = .ok (.value (.slice (some ad) i cap)) w := by
  have he : Try.prog.elem 26 = 30 := by kernel_rfl
  have hu' : Try.prog.underlying 26 = some (.slice (Try.prog.elem 26)) := by kernel_rfl
  obtain ⟨i0, g1, g2, g3, g4⟩ := info_parts (P := Try.prog) (e := 30) info_mark
  unfold execOp
  simp only [ho, hx, Option.map_some, Option.map_none, hy, Sem.run_bind, run_sliceAt_slice w 26 _ _ _ _ hu']
  rw [run_slice_h w 26 _ n cap hu' .i64 i (by omega) (by omega), he]
  simp [sizeOf, typeInfo, g1, g3, sliced, go_sem]
/-- Where a slice of cards begins, cut at i. -/
def cutAtM (b off cap i : Nat) : Addr := if cap = i then ⟨b, off, none⟩ else ⟨b, off + i * 2, none⟩
theorem cutM_l {b off n cap i : Nat} (hi : i ≤ n) (hc : n ≤ cap) (z : Int) (hz : z = i) (ho : o.op = .slice 26 x (some y) none none) (hx : ρ x = .slice (some ⟨b, off, none⟩) n cap) (hy : ρ y = .int .i64 z) (w : World) :
    (execOp ρ o).run Try.prog w = .ok (.value (.slice (some (cutAtM b off cap i)) (n - i) (cap - i))) w := by
  have he : Try.prog.elem 26 = 30 := by kernel_rfl
  have hu' : Try.prog.underlying 26 = some (.slice (Try.prog.elem 26)) := by kernel_rfl
  obtain ⟨i0, g1, g2, g3, g4⟩ := info_parts (P := Try.prog) (e := 30) info_mark
  subst hz
  unfold execOp
  simp only [ho, hx, Option.map_some, Option.map_none, hy, Sem.run_bind, run_sliceAt_slice w 26 _ _ _ _ hu']
  rw [run_slice_l w 26 _ n cap hu' .i64 i (by omega) (by omega), he]
  by_cases hci : cap = i
  · simp [sizeOf, typeInfo, g1, g3, sliced, cutAtM, go_sem, hci]
  · simp [sizeOf, typeInfo, g1, g3, sliced, cutAtM, go_sem, hci, Addr.add_lit]
end
theorem cut_srcM {w : World} {b off cap i : Nat} {l : List Mk} (h : MkIn w (some ⟨b, off, none⟩) l) (hl : l.length ≤ cap) (hi : i ≤ l.length) : ∀ j u, ((l.drop i).flatMap mkCells)[j]? = some u → w.cell? ((cutAtM b off cap i).add j) = some u := by
  intro j u hu
  unfold cutAtM
  split
  · rename_i hc
    rw [List.drop_eq_nil_of_le (by omega)] at hu
    simp at hu
  · exact mk_src (h.drop i) j u hu

section
variable {ops : Array Oper} {rest : List Oper} {o : Oper} {a : Act} {w : World} {Q : Exit → Act → World → Prop}
/-- Cards more. -/
theorem wp_appendMs (hgd : o.guard = none) (s x : Operand) (ho : o.op = .call { callee := .builtin .append, args := #[s, x], argTypes := #[26, 26] })
    (base : Nat) (v : Value) (l : List Mk) (hs : a.eval s = v) (hown : OwnsM w base v l) (ad : Addr) (m c : Nat) (ys : List Mk) (hx : a.eval x = .slice (some ad) m c) (hl : ys.length = m)
    (hsrc : ∀ j u, (ys.flatMap mkCells)[j]? = some u → w.cell? (ad.add j) = some u) (hn : l.length + m < 1000000) (hbase : base ≤ w.heap.size)
    (h : ∀ v' w', OwnsM w' base v' (l ++ ys) → w.grownBy w' v.ownBlock → wpList Try.prog ops Q rest (a.put o.dst v') w') : wpList Try.prog ops Q (o :: rest) a w := by
  obtain ⟨i0, g1, g2, g3, g4⟩ := info_parts (P := Try.prog) (e := 30) info_mark
  refine wpList_append_own_at w hgd s x 26 ho base 30 i0 (.agg #[.int .i64 0, .int .i64 0]) 2 16 Try.underlying26 g1 g2 g3 g4 rfl (by omega) v l.length (l.flatMap mkCells) hs hown ad m c (ys.flatMap mkCells) hx (by rw [mk_cells_length, hl]) hsrc (mk_one ys) ?_ ?_ hbase ?_
  · show l.length + m ≤ 9223372036854775807
    omega
  · have : (l.length + m) * 16 ≤ 1000000 * 16 := Nat.mul_le_mul (by omega) (Nat.le_refl _)
    omega
  · intro v' w' h5 h6 _ h7
    refine h v' w' ?_ h6
    unfold OwnsM
    rw [List.length_append, List.flatMap_append, hl]
    simpa using h5
end
end Go.Proofs.Ytnmigdcedcmbkaa
