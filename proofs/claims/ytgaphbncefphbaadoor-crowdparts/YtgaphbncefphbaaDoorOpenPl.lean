/-
  What a walk is told of a plan, out of its reading as data.
-/
import Derived.Test.YtgaphbncefphbaaDoorOpen
import Derived.Test.YtgaphbncefphbaaDoorBinN
namespace Go.Proofs.YtgaphbncefphbaaDoor
open Go.RowKit Go.ChangeShapes Go.WideShapes Go.ChangeAt Pn
set_option linter.unusedVariables false

/-- A plan that came in. -/
def IsPlan (w : World) (v : Value) : Prop := ∃ (lo hi mo : Int) (a : Option Addr) (n cap : Nat) (es : List Int), v = pv lo hi mo a n cap ∧ Fit w lo hi mo a n es
/-- Samples that came in. -/
def IsSam (w : World) (v : Value) : Prop := ∃ (b : Option Addr) (k cap : Nat) (xs : List Int), v = .slice b k cap ∧ k ≤ cap ∧ Sam w b k xs
theorem isI64 {v : Value} (h : IsInt .i64 v) : ∃ x : Int, B64 x ∧ v = .int .i64 x := by
  obtain ⟨n, rfl, hw⟩ := h
  have := bounds_i64 hw
  exact ⟨n, by unfold B64; omega, rfl⟩

section
variable {H : Type} {enc : TypeId × Value → H} {P : Program} {W : World} {base : Nat}
theorem wf_B64 {z : Int} (h : (Lit.int .i64 z).wf = true) : B64 z := by
  have := bounds_i64 h
  unfold B64
  omega
/-- Integers out of their cells. -/
theorem rd_of_ints64 {w : World} {x : Addr} {len cap : Nat} {zs : List Int} (hl : len ≤ cap) (hz : zs.length = cap)
    (hc : ∀ i, i < cap → w.cell? (x.add i) = some (.int .i64 (zs.getD i 0))) : Rd w (some x) (ints (zs.take len)) := by
  intro i v hv
  have hi : i < len := by
    have := (List.getElem?_eq_some_iff.1 hv).1
    rw [ints_length, List.length_take] at this
    omega
  have hiz : i < zs.length := by omega
  have hs := addr_none (hc 0 (by omega))
  obtain ⟨b, off, sp⟩ := x
  simp at hs
  subst hs
  refine ⟨b, off, rfl, ?_⟩
  have e := hc i (by omega)
  rw [Addr.add_lit] at e
  rw [e]
  simp [ints, hi, hiz] at hv
  simp [List.getD, hiz, hv]
theorem open_isSam {t e : TypeId} {v : Value} {d : DataW H} {p : List MemPlace} (ht : P.underlying t = some (.slice e)) (he : P.underlying e = some (.int .i64)) (ce : P.cellsOf e = 1)
    (hv : Value.okWide P W .any base t v) (h : DataW.Trod enc P W 0 (fun _ => true) true t v d p) : IsSam W v := by
  obtain ⟨a, len, cap, rfl⟩ := okWide_slice ht hv
  obtain ⟨fuel, hf⟩ := h
  rcases open_ints ht he ce hf with ⟨hcs, _⟩ | ⟨x, l, c, zs, hcs, _, hl, hm, hz, hx, hcell, hwz⟩
  · simp [Value.cells] at hcs
    obtain ⟨rfl, rfl, rfl⟩ := hcs
    exact ⟨none, 0, 0, [], rfl, Nat.le_refl _, rfl, by omega, by simp, Rd.nil _⟩
  · simp [Value.cells] at hcs
    obtain ⟨rfl, rfl, rfl⟩ := hcs
    simp only [if_true] at hz
    exact ⟨_, _, _, zs.take len, rfl, hl, by simp; omega, by unfold maxLen at hm; omega, fun z hz' => wf_B64 (hwz z (List.mem_of_mem_take hz')), rd_of_ints64 hl hz (fun i hi => hcell i (by omega))⟩
theorem open_isPlan {t e : TypeId} {f0 f1 f2 f3 : Field} {v : Value} {d : DataW H} {p : List MemPlace} (ht : P.underlying t = some (.struct #[f0, f1, f2, f3])) (ct : P.cellsOf t = 4)
    (o0 : f0.offset = 0) (o1 : f1.offset = 1) (o2 : f2.offset = 2) (o3 : f3.offset = 3) (c0 : P.cellsOf f0.type = 1) (c1 : P.cellsOf f1.type = 1) (c2 : P.cellsOf f2.type = 1) (c3 : P.cellsOf f3.type = 1)
    (u0 : P.underlying f0.type = some (.int .i64)) (u1 : P.underlying f1.type = some (.int .i64)) (u2 : P.underlying f2.type = some (.int .i64)) (u3 : P.underlying f3.type = some (.slice e)) (ue : P.underlying e = some (.int .i64)) (ce : P.cellsOf e = 1)
    (hv : Value.okWide P W .any base t v) (h : DataW.Trod enc P W 0 (fun _ => true) true t v d p) : IsPlan W v := by
  obtain ⟨cs, rfl, hs⟩ := okWide_struct ht hv
  obtain ⟨fuel, hf⟩ := h
  obtain ⟨xs, m, _, _, hl, hlen, hg⟩ := DataW.trod_struct ht hf
  have r : ∀ (i : Nat) (f : Field), (#[f0, f1, f2, f3] : Array Field)[i]? = some f → ∃ y, DataW.trod enc P W 0 (fun _ => true) true m f.type ((cs.toList.drop f.offset).take (P.cellsOf f.type)) = some y := fun i f hi => by
    have := hg i f hi
    have hil : i < xs.length := by rw [hlen]; exact (Array.getElem?_eq_some_iff.1 hi).1
    rw [List.getElem?_eq_getElem hil] at this
    exact ⟨_, this⟩
  obtain ⟨y0, h0⟩ := r 0 f0 rfl
  obtain ⟨y1, h1⟩ := r 1 f1 rfl
  obtain ⟨y2, h2⟩ := r 2 f2 rfl
  obtain ⟨y3, h3⟩ := r 3 f3 rfl
  simp only [Value.cells] at hl
  rw [o0, c0] at h0
  rw [o1, c1] at h1
  rw [o2, c2] at h2
  rw [o3, c3] at h3
  obtain ⟨lo, e0, _, w0⟩ := DataW.trod_int u0 h0
  obtain ⟨hi, e1, _, w1⟩ := DataW.trod_int u1 h1
  obtain ⟨mo, e2, _, w2⟩ := DataW.trod_int u2 h2
  rw [ct] at hl
  have four : ∃ x0 x1 x2 x3, cs = #[x0, x1, x2, x3] := by
    obtain ⟨l⟩ := cs
    match l, hl with
    | [x0, x1, x2, x3], _ => exact ⟨x0, x1, x2, x3, rfl⟩
  obtain ⟨x0, x1, x2, x3, rfl⟩ := four
  simp at e0 e1 e2 h3
  subst e0 e1 e2
  rcases open_ints u3 ue ce h3 with ⟨hcs, _⟩ | ⟨x, l, c, zs, hcs, _, hl', hm, hz, hx, hcell, hwz⟩
  · simp at hcs
    subst hcs
    exact ⟨lo, hi, mo, none, 0, 0, [], rfl, wf_B64 w0, wf_B64 w1, wf_B64 w2, rfl, by omega, by simp, Rd.nil _⟩
  · simp at hcs
    subst hcs
    simp only [if_true] at hz
    refine ⟨lo, hi, mo, some x, l, c, zs.take l, rfl, wf_B64 w0, wf_B64 w1, wf_B64 w2, by simp; omega, by unfold maxLen at hm; omega, fun z hz' => wf_B64 (hwz z (List.mem_of_mem_take hz')), rd_of_ints64 hl' hz (fun i hi => hcell i (by omega))⟩
end
end Go.Proofs.YtgaphbncefphbaaDoor
