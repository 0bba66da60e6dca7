/-
  What a walk is told of a number of 128 bits, out of its reading as data.
-/
import Derived.Test.YtindmmipncclbaaDoorOpen
import Derived.Test.YtindmmipncclbaaDoorLaws9
namespace Go.Proofs.YtindmmipncclbaaDoor
open Go.RowKit Go.ChangeShapes Go.WideShapes Go.ChangeAt Wd
set_option linter.unusedVariables false

section
variable {H : Type} {enc : TypeId × Value → H} {P : Program} {W : World} {base : Nat}
/-- Two fields, each of one number. -/
theorem open_two {t : TypeId} {f0 f1 : Field} {k0 k1 : IntKind} {v : Value} {d : DataW H} {p : List MemPlace} (ht : P.underlying t = some (.struct #[f0, f1])) (ct : P.cellsOf t = 2) (o0 : f0.offset = 0) (o1 : f1.offset = 1) (c0 : P.cellsOf f0.type = 1) (c1 : P.cellsOf f1.type = 1)
    (u0 : P.underlying f0.type = some (.int k0)) (u1 : P.underlying f1.type = some (.int k1)) (hv : Value.okWide P W .any base t v)
    (h : DataW.Trod enc P W 0 (fun _ => true) true t v d p) : ∃ a b : Int, v = .agg #[.int k0 a, .int k1 b] ∧ (Lit.int k0 a).wf = true ∧ (Lit.int k1 b).wf = true := by
  obtain ⟨cs, rfl, hs⟩ := okWide_struct ht hv
  obtain ⟨fuel, hf⟩ := h
  obtain ⟨y0, y1, m, _, hl, h0, h1⟩ := trod_struct2 ht hf
  simp only [Value.cells, o0, o1, c0, c1] at hl h0 h1
  obtain ⟨a, e0, _, w0⟩ := DataW.trod_int u0 h0
  obtain ⟨b, e1, _, w1⟩ := DataW.trod_int u1 h1
  refine ⟨a, b, ?_, w0, w1⟩
  congr 1
  rw [ct] at hl
  apply Array.toList_inj.1
  match hc : cs.toList with
  | [] => rw [hc] at hl; simp at hl
  | [x] => rw [hc] at hl; simp at hl
  | [x, y] => rw [hc] at e0 e1; simp at e0 e1; simp [e0, e1]
  | x :: y :: z :: r => rw [hc] at hl; simp at hl
theorem open_isWide {t : TypeId} {f0 f1 : Field} {v : Value} {d : DataW H} {p : List MemPlace} (ht : P.underlying t = some (.struct #[f0, f1])) (ct : P.cellsOf t = 2) (o0 : f0.offset = 0) (o1 : f1.offset = 1) (c0 : P.cellsOf f0.type = 1) (c1 : P.cellsOf f1.type = 1)
    (u0 : P.underlying f0.type = some (.int .u64)) (u1 : P.underlying f1.type = some (.int .u64)) (hv : Value.okWide P W .any base t v)
    (h : DataW.Trod enc P W 0 (fun _ => true) true t v d p) : IsWide v := by
  obtain ⟨a, b, rfl, wa, wb⟩ := open_two ht ct o0 o1 c0 c1 u0 u1 hv h
  have b1 := bounds_u64 wa
  have b2 := bounds_u64 wb
  have := of_parts (h := a.toNat) (l := b.toNat) (by omega) (by omega)
  refine ⟨a.toNat * 18446744073709551616 + b.toNat, by unfold M; omega, ?_⟩
  unfold wv
  rw [this.1, this.2, Int.toNat_of_nonneg (by omega), Int.toNat_of_nonneg (by omega)]
end
end Go.Proofs.YtindmmipncclbaaDoor
