/-
  What a walk is told of a list of points, out of its reading as data.
-/
import Derived.Test.YthfaahngnnfefaaOpen
import Derived.Test.YthfaahngnnfefaaPolyN
import Derived.Deep.SlicePairs
namespace Go.Proofs.Ythfaahngnnfefaa
open Go.RowKit Go.ChangeShapes Go.WideShapes Go.ChangeAt Go.Deep
set_option linter.unusedVariables false

/-- A slice of points, at most M of them. -/
def IsPts (M : Nat) (w : World) (v : Value) : Prop :=
  ∃ (a : Option Addr) (len cap : Nat) (ps : List Pt), v = .slice a len cap ∧ ps.length = len ∧ (∀ p ∈ ps, -9223372036854775808 ≤ p.1 ∧ p.1 ≤ 9223372036854775807 ∧ p.2 < 18446744073709551616) ∧ Pts w a ps ∧ len ≤ M ∧ len ≤ cap

section
variable {H : Type} {enc : TypeId × Value → H} {P : Program} {W : World} {base : Nat}
theorem open_isPts {t e : TypeId} {f0 f1 : Field} {M : Nat} {v : Value} {d : DataW H} {p : List MemPlace} (ht : P.underlying t = some (.slice e)) (he : P.underlying e = some (.struct #[f0, f1]))
    (ce : P.cellsOf e = 2) (o0 : f0.offset = 0) (o1 : f1.offset = 1) (c0 : P.cellsOf f0.type = 1) (c1 : P.cellsOf f1.type = 1) (k0 : P.underlying f0.type = some (.int .i64)) (k1 : P.underlying f1.type = some (.int .u64))
    (hv : Value.okWide P W .any base t v) (h : DataW.Trod enc P W 0 (fun _ => true) true t v d p) (hM : ∀ elems spare, d = .slice elems spare → elems.length + spare.length ≤ M) : IsPts M W v := by
  obtain ⟨a, len, cap, rfl⟩ := okWide_slice ht hv
  obtain ⟨fuel, hf⟩ := h
  rcases open_slice_pairs ht he ce o0 o1 c0 c1 hf with ⟨hcs, _⟩ | ⟨x, l, c, m, n, V0, V1, D0, D1, P0, P1, hcs, _, hl, hm, hmm, hx, hr⟩
  · simp [Value.cells] at hcs
    obtain ⟨rfl, rfl, rfl⟩ := hcs
    exact ⟨none, 0, 0, [], rfl, rfl, by simp, by intro i p hp; simp at hp, Nat.zero_le _, Nat.le_refl _⟩
  · simp [Value.cells] at hcs
    obtain ⟨rfl, rfl, rfl⟩ := hcs
    simp only [if_true] at hmm
    subst hmm
    simp only [Prod.mk.injEq] at hx
    have hb := hM _ _ hx.1
    simp at hb
    have each : ∀ i, i < len → ∃ q : Pt, V0 i = .int .i64 q.1 ∧ V1 i = .int .u64 (q.2 : Nat) ∧ -9223372036854775808 ≤ q.1 ∧ q.1 ≤ 9223372036854775807 ∧ q.2 < 18446744073709551616 := by
      intro i hi
      obtain ⟨_, _, h3, h4⟩ := hr i (by omega)
      obtain ⟨z, e1, _, wz⟩ := DataW.trod_int k0 h3
      obtain ⟨y, e2, _, wy⟩ := DataW.trod_int k1 h4
      have b1 := bounds_i64 wz
      have b2 := bounds_u64 wy
      refine ⟨(z, y.toNat), by simpa using e1, ?_, by omega, by omega, by omega⟩
      rw [Int.toNat_of_nonneg (by omega)]
      simpa using e2
    obtain ⟨Z, hZ⟩ := choose_lt each
    refine ⟨_, _, _, (List.range len).map Z, rfl, by simp, ?_, ?_, by omega, hl⟩
    · intro q hq
      obtain ⟨i, hi, rfl⟩ := List.mem_map.1 hq
      exact (hZ i (List.mem_range.1 hi)).2.2
    · intro i q hq
      have hi : i < len := by
        have := (List.getElem?_eq_some_iff.1 hq).1
        simpa using this
      have hq' : q = Z i := by
        simp [hi] at hq
        exact hq.symm
      subst hq'
      obtain ⟨h1, h2, _, _⟩ := hr i (by omega)
      obtain ⟨e1, e2, _⟩ := hZ i hi
      have hs := addr_none (show W.cell? (x.add 0) = some (V0 0) by simpa using (hr 0 (by omega)).1)
      obtain ⟨b, off, sp⟩ := x
      simp at hs
      subst hs
      rw [Addr.add_lit] at h1 h2
      rw [e1] at h1
      rw [e2] at h2
      exact ⟨b, off, rfl, h1, by rw [Nat.add_assoc]; exact h2⟩
end
end Go.Proofs.Ythfaahngnnfefaa
