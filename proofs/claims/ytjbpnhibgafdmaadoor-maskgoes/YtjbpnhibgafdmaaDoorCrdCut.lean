/-
  Cards cut out of a slice, and laid behind one another in a slice of the call's own, in a region that draws.
-/
import Derived.Test.YtjbpnhibgafdmaaDoorOwnC
import Derived.Test.YtjbpnhibgafdmaaDoorMgSs
import Derived.Deep.AppendSrc
import Derived.Deep.Upon
namespace Go.Proofs.YtjbpnhibgafdmaaDoor
open Go.RowKit
set_option linter.unusedVariables false

theorem info_card : (Tryd.prog.info? 49).map (fun i => (i.zero, i.size, i.bytes)) = some (some (.agg #[.int .i64 0, .int .u64 0, .int .u64 0]), 3, 24) := by kernel_rfl
/-- The cells behind a slice of cards. -/
theorem crd_src {w : World} {b off : Nat} {l : List Crd} (h : CrdIn w (some ⟨b, off, none⟩) l) : ∀ j u, (l.flatMap Crd.cells)[j]? = some u → w.cell? ((⟨b, off, none⟩ : Addr).add j) = some u := by
  intro j u hu
  have hj : j < l.length * 3 := by rw [← crd_cells_length]; exact (List.getElem?_eq_some_iff.1 hu).1
  have hi : j / 3 < l.length := by omega
  have hr : j % 3 < 3 := Nat.mod_lt _ (by decide)
  obtain ⟨b', off', ha, h1, h2, h3⟩ := h (j / 3) l[j / 3] (List.getElem?_eq_getElem hi)
  cases Option.some.inj ha
  have e := crd_cells_at l (j / 3) (j % 3) _ (List.getElem?_eq_getElem hi) hr
  rw [show j / 3 * 3 + j % 3 = j by omega, hu] at e
  rw [Addr.add_lit]
  rcases (by omega : j % 3 = 0 ∨ j % 3 = 1 ∨ j % 3 = 2) with q | q | q
  · rw [q] at e
    rw [e, show off + j = off + j / 3 * 3 by omega, h1]
    rfl
  · rw [q] at e
    rw [e, show off + j = off + j / 3 * 3 + 1 by omega, h2]
    rfl
  · rw [q] at e
    rw [e, show off + j = off + j / 3 * 3 + 2 by omega, h3]
    rfl
theorem crd_one (l : List Crd) : ∀ u ∈ l.flatMap Crd.cells, u.oneCell' = true := by
  intro u hu
  obtain ⟨c, _, hc⟩ := List.mem_flatMap.1 hu
  simp [Crd.cells] at hc
  rcases hc with rfl | rfl | rfl <;> rfl
theorem CrdIn.drop {w : World} {b off : Nat} {l : List Crd} (h : CrdIn w (some ⟨b, off, none⟩) l) (k : Nat) : CrdIn w (some ⟨b, off + k * 3, none⟩) (l.drop k) := by
  intro i x hx
  rw [List.getElem?_drop] at hx
  obtain ⟨b', off', ha, h1, h2, h3⟩ := h _ x hx
  cases Option.some.inj ha
  refine ⟨b, off + k * 3, rfl, ?_, ?_, ?_⟩
  · rw [show off + k * 3 + i * 3 = off + (k + i) * 3 by omega]; exact h1
  · rw [show off + k * 3 + i * 3 + 1 = off + (k + i) * 3 + 1 by omega]; exact h2
  · rw [show off + k * 3 + i * 3 + 2 = off + (k + i) * 3 + 2 by omega]; exact h3

/-- A slice of cards of the call's own, in a region. -/
def ownC (B : Nat) (l : List Crd) : Ssx.XP Old := ⟨fun v w => OwnsC w B v l, fun _ _ _ h o => h.mono o⟩
def own0C (B : Nat) : Ssx.XP Old := ⟨fun v w => (∃ g, v = .slice (some ⟨g, 0, none⟩) 0 0) ∧ OwnsC w B v [], fun _ _ _ h o => ⟨h.1, h.2.mono o⟩⟩

section
variable {C : World → Prop} {Ok : Tmp → Value → World → Prop} {o : Oper} {d : Tmp}
theorem bld0C {B : Nat} (hB : ∀ w, C w → B ≤ w.heap.size) (hCo : ∀ w w', C w → Old w w' → C w') (ho : o.op = .buildSlice 37 0 #[]) (hd : o.dst = some d) (h : ∀ v w, (own0C B).p v w → Ok d v w) : Ssb.Good Tryd.prog C Old Ok o :=
  Ssx.step hd fun a w hc hop => ⟨.slice (some ⟨w.heap.size, 0, none⟩) 0 0, w.alloc (.cells #[] 49), by
    unfold execOp
    simp [ho, go_sem], hCo _ _ hc (Old.of_alloc _ _), Old.of_alloc _ _, h _ _ ⟨⟨_, rfl⟩, OwnsC.empty w B (hB w hc)⟩⟩
theorem app0C {B : Nat} (hB : ∀ w, C w → B ≤ w.heap.size) (hCo : ∀ w w', C w → Old w w' → C w') {s y : Tmp} (ho : o.op = .call { callee := .builtin .append, args := #[.tmp s, .tmp y], argTypes := #[37, 37] }) (hd : o.dst = some d)
    (ad : Addr) (m ck : Nat) (l : List Crd) (hl : l.length = m) (hsm : m ≤ 1000000) (hs : ∀ v w, Ok s v w → (own0C B).p v w) (hy : ∀ v w, Ok y v w → v = .slice (some ad) m ck)
    (hsrc : ∀ w, C w → ∀ j u, (l.flatMap Crd.cells)[j]? = some u → w.cell? (ad.add j) = some u) (h : ∀ v w, OwnsC w B v l → Ok d v w) : Ssb.Good Tryd.prog C Old Ok o := by
  refine Ssx.step hd fun a w hC hop => ?_
  obtain ⟨⟨g, h1⟩, h2⟩ := hs _ _ (hop s (by rw [ho]; simp [Op.operands, Call.operands]))
  have h3 := hy _ _ (hop y (by rw [ho]; simp [Op.operands, Call.operands]))
  obtain ⟨i0, g1, g2, g3, g4⟩ := info_parts (P := Tryd.prog) (e := 49) info_card
  rw [h1] at h2
  rcases Nat.eq_zero_or_pos m with hm | hm
  · subst hm
    have hl0 : l = [] := List.eq_nil_of_length_eq_zero hl
    subst hl0
    have src : Src Tryd.prog i0.size 37 (.slice (some ad) 0 ck) 0 [] w := Src.ofSlice w Tryd.underlying37 ad 0 ck [] (by simp) (fun j u hj => by simp at hj) (by simp)
    have hrun := fun ty => run_append_nothing w 37 37 ty 49 i0 Tryd.underlying37 g1 (some ⟨g, 0, none⟩) 0 0 (Nat.le_refl _) (.slice (some ad) 0 ck) src
    refine ⟨.slice (some ⟨g, 0, none⟩) 0 0, w, ?_, hC, Old.refl _, h _ _ h2⟩
    simp [execOp, ho, resolve, invoke, builtin, h1, h3, hrun, Result.andThen]
  · have hlen : (l.flatMap Crd.cells).length = m * i0.size := by rw [crd_cells_length, hl, g3]
    have hr := fun ty => run_append_grow (P := Tryd.prog) w 37 ty 49 i0 (.agg #[.int .i64 0, .int .u64 0, .int .u64 0]) Tryd.underlying37 g1 g2 ⟨g, 0, none⟩ 0 0 [] (by simp) (by simp) ad m ck (l.flatMap Crd.cells) hlen (hsrc w hC) (by omega) (by omega) (growslice_fits (by omega) (by rw [g4]; omega))
    obtain ⟨v', w', hr1, ow, -, -, -⟩ := run_append_own_at (P := Tryd.prog) w B 37 o.type 49 i0 (.agg #[.int .i64 0, .int .u64 0, .int .u64 0]) 3 24 Tryd.underlying37 g1 g2 g3 g4 rfl (by omega) (.slice (some ⟨g, 0, none⟩) 0 0) 0 [] h2 ad m ck (l.flatMap Crd.cells) (by rw [crd_cells_length, hl]) (hsrc w hC) (crd_one l) (by show 0 + m ≤ 9223372036854775807; omega) (by omega) (hB w hC)
    have hr2 := hr o.type
    rw [hr1] at hr2
    injection hr2 with e1 e2
    have O : Old w w' := by rw [e2]; exact (Old.refl w).drew.alloc _
    refine ⟨v', w', ?_, hCo _ _ hC O, O, h _ _ ?_⟩
    · simp [execOp, ho, resolve, invoke, builtin, h1, h3, hr1, Result.andThen]
    · unfold OwnsC
      rw [hl]
      simpa using ow
end

section
variable {o : Oper} {ρ : Operand → Value} {x y : Operand}
theorem cutC_h {ad : Addr} {n cap i : Nat} (hi : i ≤ cap) (ho : o.op = .slice 37 x none (some y) none) (hx : ρ x = .slice (some ad) n cap) (hy : ρ y = .int .i64 (i : Nat)) (w : World) : (execOp ρ o).run Tryd.prog w = .ok (.value (.slice (some ad) i cap)) w := by
  have he : Tryd.prog.elem 37 = 49 := by kernel_rfl
  have hu' : Tryd.prog.underlying 37 = some (.slice (Tryd.prog.elem 37)) := by kernel_rfl
  obtain ⟨i0, g1, g2, g3, g4⟩ := info_parts (P := Tryd.prog) (e := 49) info_card
  unfold execOp
  simp only [ho, hx, Option.map_some, Option.map_none, hy, Sem.run_bind, run_sliceAt_slice w 37 _ _ _ _ hu']
  rw [run_slice_h w 37 _ n cap hu' .i64 i (by omega) (by omega), he]
  simp [sizeOf, typeInfo, g1, g3, sliced, go_sem]
/-- Where a slice of cards begins, cut at i. -/
def cutAt (b off cap i : Nat) : Addr := if cap = i then ⟨b, off, none⟩ else ⟨b, off + i * 3, none⟩
theorem cutC_l {b off n cap i : Nat} (hi : i ≤ n) (hc : n ≤ cap) (z : Int) (hz : z = i) (ho : o.op = .slice 37 x (some y) none none) (hx : ρ x = .slice (some ⟨b, off, none⟩) n cap) (hy : ρ y = .int .i64 z) (w : World) :
    (execOp ρ o).run Tryd.prog w = .ok (.value (.slice (some (cutAt b off cap i)) (n - i) (cap - i))) w := by
  have he : Tryd.prog.elem 37 = 49 := by kernel_rfl
  have hu' : Tryd.prog.underlying 37 = some (.slice (Tryd.prog.elem 37)) := by kernel_rfl
  obtain ⟨i0, g1, g2, g3, g4⟩ := info_parts (P := Tryd.prog) (e := 49) info_card
  subst hz
  unfold execOp
  simp only [ho, hx, Option.map_some, Option.map_none, hy, Sem.run_bind, run_sliceAt_slice w 37 _ _ _ _ hu']
  rw [run_slice_l w 37 _ n cap hu' .i64 i (by omega) (by omega), he]
  by_cases hci : cap = i
  · simp [sizeOf, typeInfo, g1, g3, sliced, cutAt, go_sem, hci]
  · simp [sizeOf, typeInfo, g1, g3, sliced, cutAt, go_sem, hci, Addr.add_lit]
end
theorem cut_src {w : World} {b off cap i : Nat} {l : List Crd} (h : CrdIn w (some ⟨b, off, none⟩) l) (hl : l.length ≤ cap) (hi : i ≤ l.length) : ∀ j u, ((l.drop i).flatMap Crd.cells)[j]? = some u → w.cell? ((cutAt b off cap i).add j) = some u := by
  intro j u hu
  unfold cutAt
  split
  · rename_i hc
    rw [List.drop_eq_nil_of_le (by omega)] at hu
    simp at hu
  · exact crd_src (h.drop i) j u hu

section
variable {ops : Array Oper} {rest : List Oper} {o : Oper} {a : Act} {w : World} {Q : Exit → Act → World → Prop}
/-- Cards more. -/
theorem wp_appendCs (hgd : o.guard = none) (s x : Operand) (ho : o.op = .call { callee := .builtin .append, args := #[s, x], argTypes := #[37, 37] })
    (base : Nat) (v : Value) (l : List Crd) (hs : a.eval s = v) (hown : OwnsC w base v l) (ad : Addr) (m c : Nat) (ys : List Crd) (hx : a.eval x = .slice (some ad) m c) (hl : ys.length = m)
    (hsrc : ∀ j u, (ys.flatMap Crd.cells)[j]? = some u → w.cell? (ad.add j) = some u) (hn : l.length + m < 1000000) (hbase : base ≤ w.heap.size)
    (h : ∀ v' w', OwnsC w' base v' (l ++ ys) → w.grownBy w' v.ownBlock → wpList Tryd.prog ops Q rest (a.put o.dst v') w') : wpList Tryd.prog ops Q (o :: rest) a w := by
  obtain ⟨i0, g1, g2, g3, g4⟩ := info_parts (P := Tryd.prog) (e := 49) info_card
  refine wpList_append_own_at w hgd s x 37 ho base 49 i0 (.agg #[.int .i64 0, .int .u64 0, .int .u64 0]) 3 24 Tryd.underlying37 g1 g2 g3 g4 rfl (by omega) v l.length (l.flatMap Crd.cells) hs hown ad m c (ys.flatMap Crd.cells) hx (by rw [crd_cells_length, hl]) hsrc (crd_one ys) ?_ ?_ hbase ?_
  · show l.length + m ≤ 9223372036854775807
    omega
  · have : (l.length + m) * 24 ≤ 1000000 * 24 := Nat.mul_le_mul (by omega) (Nat.le_refl _)
    omega
  · intro v' w' h5 h6 _ h7
    refine h v' w' ?_ h6
    unfold OwnsC
    rw [List.length_append, List.flatMap_append, hl]
    simpa using h5
end
end Go.Proofs.YtjbpnhibgafdmaaDoor
