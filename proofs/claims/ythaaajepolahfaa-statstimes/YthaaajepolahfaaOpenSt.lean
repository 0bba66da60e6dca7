/-
  What a walk is told of stats, out of their reading as data.
-/
import Derived.Test.YthaaajepolahfaaOpenPl
import Derived.Test.YthaaajepolahfaaLaws13
namespace Go.Proofs.Ythaaajepolahfaa
open Go.RowKit Go.ChangeShapes Go.WideShapes Go.ChangeAt Pn
set_option linter.unusedVariables false

section
variable {H : Type} {enc : TypeId × Value → H} {P : Program} {W : World} {base : Nat}
/-- Two numbers of 64 bits in cells. -/
theorem two_cells {t : TypeId} {g0 g1 : Field} {fuel : Nat} {cs : List Value} {x : DataW H × List MemPlace} (ht : P.underlying t = some (.struct #[g0, g1])) (o0 : g0.offset = 0) (o1 : g1.offset = 1) (c0 : P.cellsOf g0.type = 1) (c1 : P.cellsOf g1.type = 1)
    (u0 : P.underlying g0.type = some (.int .u64)) (u1 : P.underlying g1.type = some (.int .u64)) (hl : cs.length = 2) (h : DataW.trod enc P W 0 (fun _ => true) true fuel t cs = some x) : ∃ a b : Nat, cs = [.int .u64 (a : Nat), .int .u64 (b : Nat)] := by
  obtain ⟨y0, y1, m, _, _, h0, h1⟩ := trod_struct2 ht h
  simp only [o0, o1, c0, c1] at h0 h1
  obtain ⟨a, e0, _, w0⟩ := DataW.trod_int u0 h0
  obtain ⟨b, e1, _, w1⟩ := DataW.trod_int u1 h1
  have b0 := bounds_u64 w0
  have b1 := bounds_u64 w1
  match cs, hl with
  | [x, y], _ =>
    simp at e0 e1
    exact ⟨a.toNat, b.toNat, by rw [e0, e1, Int.toNat_of_nonneg (by omega), Int.toNat_of_nonneg (by omega)]⟩

theorem open_isStats {t e : TypeId} {f0 f1 f2 f3 f4 g0 g1 g2 g3 : Field} {v : Value} {d : DataW H} {p : List MemPlace} (ht : P.underlying t = some (.struct #[f0, f1, f2, f3, f4])) (ct : P.cellsOf t = 7)
    (o0 : f0.offset = 0) (o1 : f1.offset = 1) (o2 : f2.offset = 2) (o3 : f3.offset = 4) (o4 : f4.offset = 6) (c0 : P.cellsOf f0.type = 1) (c1 : P.cellsOf f1.type = 1) (c2 : P.cellsOf f2.type = 2) (c3 : P.cellsOf f3.type = 2) (c4 : P.cellsOf f4.type = 1)
    (u0 : P.underlying f0.type = some (.slice e)) (ue : P.underlying e = some (.int .i64)) (ce : P.cellsOf e = 1) (u1 : P.underlying f1.type = some (.int .i64)) (u2 : P.underlying f2.type = some (.struct #[g0, g1])) (u3 : P.underlying f3.type = some (.struct #[g2, g3])) (u4 : P.underlying f4.type = some .bool)
    (q0 : g0.offset = 0) (q1 : g1.offset = 1) (k0 : P.cellsOf g0.type = 1) (k1 : P.cellsOf g1.type = 1) (x0 : P.underlying g0.type = some (.int .u64)) (x1 : P.underlying g1.type = some (.int .u64))
    (q2 : g2.offset = 0) (q3 : g3.offset = 1) (k2 : P.cellsOf g2.type = 1) (k3 : P.cellsOf g3.type = 1) (x2 : P.underlying g2.type = some (.int .u64)) (x3 : P.underlying g3.type = some (.int .u64))
    (hv : Value.okWide P W .any base t v) (h : DataW.Trod enc P W 0 (fun _ => true) true t v d p) : IsStats W v := by
  obtain ⟨cs, rfl, hs⟩ := okWide_struct ht hv
  obtain ⟨fuel, hf⟩ := h
  obtain ⟨xs, m, _, _, hl, hlen, hg⟩ := DataW.trod_struct ht hf
  have r : ∀ (i : Nat) (f : Field), (#[f0, f1, f2, f3, f4] : Array Field)[i]? = some f → ∃ y, DataW.trod enc P W 0 (fun _ => true) true m f.type ((cs.toList.drop f.offset).take (P.cellsOf f.type)) = some y := fun i f hi => by
    have := hg i f hi
    have hil : i < xs.length := by rw [hlen]; exact (Array.getElem?_eq_some_iff.1 hi).1
    rw [List.getElem?_eq_getElem hil] at this
    exact ⟨_, this⟩
  obtain ⟨y0, h0⟩ := r 0 f0 rfl
  obtain ⟨y1, h1⟩ := r 1 f1 rfl
  obtain ⟨y2, h2⟩ := r 2 f2 rfl
  obtain ⟨y3, h3⟩ := r 3 f3 rfl
  obtain ⟨y4, h4⟩ := r 4 f4 rfl
  simp only [Value.cells] at hl
  rw [o0, c0] at h0
  rw [o1, c1] at h1
  rw [o2, c2] at h2
  rw [o3, c3] at h3
  rw [o4, c4] at h4
  rw [ct] at hl
  have seven : ∃ z0 z1 z2 z3 z4 z5 z6, cs = #[z0, z1, z2, z3, z4, z5, z6] := by
    obtain ⟨l⟩ := cs
    match l, hl with
    | [z0, z1, z2, z3, z4, z5, z6], _ => exact ⟨z0, z1, z2, z3, z4, z5, z6, rfl⟩
  obtain ⟨z0, z1, z2, z3, z4, z5, z6, rfl⟩ := seven
  simp at h0 h1 h2 h3 h4
  obtain ⟨cn, e1, _, w1⟩ := DataW.trod_int u1 h1
  obtain ⟨a2, b2, e2⟩ := two_cells u2 q0 q1 k0 k1 x0 x1 rfl h2
  obtain ⟨a3, b3, e3⟩ := two_cells u3 q2 q3 k2 k3 x2 x3 rfl h3
  obtain ⟨ng, e4, _⟩ := DataW.trod_bool u4 h4
  simp at e1 e2 e3 e4
  obtain ⟨rfl, rfl⟩ := e2
  obtain ⟨rfl, rfl⟩ := e3
  subst e1 e4
  rcases open_ints u0 ue ce h0 with ⟨hcs, _⟩ | ⟨x, l, c, zs, hcs, _, hl', hm, hz, hx, hcell, hwz⟩
  · simp at hcs
    subst hcs
    exact ⟨⟨cn, a2, b2, a3, b3, ng⟩, none, 0, 0, [], rfl, Nat.le_refl _, by omega, rfl, Rd.nil _⟩
  · simp at hcs
    subst hcs
    simp only [if_true] at hz
    exact ⟨⟨cn, a2, b2, a3, b3, ng⟩, some x, l, c, zs.take l, rfl, hl', by unfold maxLen at hm; omega, by simp; omega, rd_of_ints64 hl' hz (fun i hi => hcell i (by omega))⟩
end
end Go.Proofs.Ythaaajepolahfaa
