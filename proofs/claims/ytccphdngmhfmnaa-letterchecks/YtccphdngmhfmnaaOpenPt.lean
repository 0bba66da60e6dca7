/-
  What a walk is told of a list of fields to be written, out of its reading as data.
-/
import Derived.Test.YtccphdngmhfmnaaOpen
import Derived.Test.YtccphdngmhfmnaaLaws14d
import Derived.Deep.SlicePairs
namespace Go.Proofs.Ytccphdngmhfmnaa
open Go.RowKit Go.ChangeShapes Go.WideShapes Go.ChangeAt Go.Deep Cn
set_option linter.unusedVariables false

instance : Inhabited Prt := ⟨⟨0, 0, 0, none, 0, 0, []⟩⟩
section
variable {H : Type} {enc : TypeId × Value → H} {P : Program} {W : World} {base : Nat}
theorem open_isParts {t e eb : TypeId} {f0 f1 f2 f3 : Field} {v : Value} {d : DataW H} {p : List MemPlace} (ht : P.underlying t = some (.slice e)) (he : P.underlying e = some (.struct #[f0, f1, f2, f3])) (ce : P.cellsOf e = 4)
    (o0 : f0.offset = 0) (o1 : f1.offset = 1) (o2 : f2.offset = 2) (o3 : f3.offset = 3) (c0 : P.cellsOf f0.type = 1) (c1 : P.cellsOf f1.type = 1) (c2 : P.cellsOf f2.type = 1) (c3 : P.cellsOf f3.type = 1)
    (u0 : P.underlying f0.type = some (.int .i64)) (u1 : P.underlying f1.type = some (.int .i64)) (u2 : P.underlying f2.type = some (.int .u64)) (u3 : P.underlying f3.type = some (.slice eb)) (ub : P.underlying eb = some (.int .u8)) (cb : P.cellsOf eb = 1)
    (hv : Value.okWide P W .any base t v) (h : DataW.Trod enc P W 0 (fun _ => true) true t v d p) : IsParts W v := by
  obtain ⟨a, len, cap, rfl⟩ := okWide_slice ht hv
  obtain ⟨fuel, hf⟩ := h
  rcases open_slice ht hf with ⟨hcs, _⟩ | ⟨x, l, c, m, n, D, Pl, hcs, _, hl, hm, hmm, hx', hx⟩
  · simp [Value.cells] at hcs
    obtain ⟨rfl, rfl, rfl⟩ := hcs
    exact ⟨none, 0, 0, [], rfl, rfl, by simp, by simp, by omega, Nat.le_refl _⟩
  · simp [Value.cells] at hcs
    obtain ⟨rfl, rfl, rfl⟩ := hcs
    simp only [if_true] at hmm
    subst hmm
    have each : ∀ i, i < len → ∃ q : Prt, q.Ok W ∧ ∀ (j : Nat) (u : Value), q.cells[j]? = some u → W.cell? (x.add (i * 4 + j)) = some u := by
      intro i hi
      obtain ⟨cs', h1, h2⟩ := hx i (by omega)
      rw [ce] at h1
      obtain ⟨_, hlen, hcell⟩ := World.cells?_some h1
      obtain ⟨ys, k, hk, hxy, _, hxl, hg⟩ := DataW.trod_struct he h2
      match ys, hxl, cs', hlen with
      | [y0, y1, y2, y3], _, [z0, z1, z2, z3], _ =>
        have g0 := hg 0 f0 rfl
        have g1 := hg 1 f1 rfl
        have g2 := hg 2 f2 rfl
        have g3 := hg 3 f3 rfl
        simp [o0, o1, o2, o3, c0, c1, c2, c3] at g0 g1 g2 g3
        obtain ⟨what, e0, _, w0⟩ := DataW.trod_int u0 g0
        obtain ⟨nn, e1, _, w1⟩ := DataW.trod_int u1 g1
        obtain ⟨gg, e2, _, w2⟩ := DataW.trod_int u2 g2
        have b0 := bounds_i64 w0
        have b1 := bounds_i64 w1
        have b2 := bounds_u64 w2
        simp at e0 e1 e2
        have k0 := hcell 0 (by omega)
        have k1 := hcell 1 (by omega)
        have k2 := hcell 2 (by omega)
        have k3 := hcell 3 (by omega)
        rw [add_add] at k0 k1 k2 k3
        simp at k0 k1 k2 k3
        have fin : ∀ (bb : Option Addr) (kk cc : Nat) (xs : List Nat), z3 = .slice bb kk cc → By14 W bb kk cc xs → ∃ q : Prt, q.Ok W ∧ ∀ (j : Nat) (u : Value), q.cells[j]? = some u → W.cell? (x.add (i * 4 + j)) = some u := by
          intro bb kk cc xs ez B
          refine ⟨⟨what, nn, gg.toNat, bb, kk, cc, xs⟩, ⟨by simp only; omega, by simp only; omega, by simp only; omega, B⟩, fun j u hu => ?_⟩
          match j, hu with
          | 0, hu => simp [Prt.cells] at hu; rw [← hu, ← e0]; simpa using k0
          | 1, hu => simp [Prt.cells] at hu; rw [← hu, ← e1]; exact k1
          | 2, hu =>
            simp [Prt.cells] at hu
            rw [← hu, show max gg 0 = gg by omega, ← e2]
            exact k2
          | 3, hu => simp [Prt.cells] at hu; rw [← hu, ← ez]; exact k3
          | j + 4, hu => simp [Prt.cells] at hu
        rcases open_ints u3 ub cb g3 with ⟨hcs, _⟩ | ⟨xa, ll, cc, zs, hcs, _, hl', hm', hz, _, hcell', hwz⟩
        · simp at hcs
          exact fin none 0 0 [] hcs ⟨rfl, Nat.le_refl _, by omega, by simp, Rd.nil _⟩
        · simp at hcs
          simp only [if_true] at hz
          obtain ⟨xs, x1, x2, x3⟩ := rd_of_ints wf_u8 hl' hz (fun i hi => hcell' i (by omega)) hwz
          exact fin (some xa) ll cc xs hcs ⟨x1, hl', by unfold maxLen at hm'; omega, x2, x3⟩
    obtain ⟨Z, hZ⟩ := choose_lt each
    refine ⟨_, _, _, (List.range len).map Z, rfl, by simp, ?_, ?_, by unfold maxLen at hm; omega, hl⟩
    · intro q hq
      obtain ⟨i, hi, rfl⟩ := List.mem_map.1 hq
      exact (hZ i (List.mem_range.1 hi)).1
    · intro i q hq
      have hi : i < len := by
        have := (List.getElem?_eq_some_iff.1 hq).1
        simpa using this
      have hq' : q = Z i := by
        simp [hi] at hq
        exact hq.symm
      subst hq'
      have hs := addr_none (show W.cell? (x.add (0 * 4 + 0)) = some _ from (hZ 0 (by omega)).2 0 _ rfl)
      obtain ⟨b, off, sp⟩ := x
      simp at hs
      subst hs
      refine ⟨b, off, rfl, fun j u hu => ?_⟩
      have := (hZ i hi).2 j u hu
      rw [Addr.add_lit] at this
      rw [Nat.add_assoc]
      exact this
end
end Go.Proofs.Ytccphdngmhfmnaa
