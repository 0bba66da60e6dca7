/-
  A slice of structs of three cells that came in, out of its reading as data.
-/
import Derived.Test.YtnmigdcedcmbkaaOpen
import Derived.Deep.SlicePairs
namespace Go.Proofs.Ytnmigdcedcmbkaa
open Go.RowKit Go.ChangeShapes Go.WideShapes Go.ChangeAt Go.Deep
set_option linter.unusedVariables false

section
variable {H : Type} {enc : TypeId × Value → H} {P : Program} {W : World} {base : Nat}
theorem open_tri {α : Type} [Inhabited α] {R : α → Value → Value → Value → Prop} {t e : TypeId} {f0 f1 f2 : Field} {fuel : Nat} {cs : List Value} {y : DataW H × List MemPlace} (ht : P.underlying t = some (.slice e)) (he : P.underlying e = some (.struct #[f0, f1, f2])) (ce : P.cellsOf e = 3)
    (o0 : f0.offset = 0) (o1 : f1.offset = 1) (o2 : f2.offset = 2) (c0 : P.cellsOf f0.type = 1) (c1 : P.cellsOf f1.type = 1) (c2 : P.cellsOf f2.type = 1)
    (one : ∀ (n : Nat) (z0 z1 z2 : Value) y0 y1 y2, DataW.trod enc P W 0 (fun _ => true) true n f0.type [z0] = some y0 → DataW.trod enc P W 0 (fun _ => true) true n f1.type [z1] = some y1 → DataW.trod enc P W 0 (fun _ => true) true n f2.type [z2] = some y2 → ∃ q : α, R q z0 z1 z2)
    (hf : DataW.trod enc P W 0 (fun _ => true) true fuel t cs = some y) :
    ∃ (a : Option Addr) (cap : Nat) (L : List α), cs = [.slice a L.length cap] ∧ L.length ≤ cap ∧ L.length ≤ 9223372036854775807 ∧ ∀ (i : Nat) (q : α), L[i]? = some q → ∃ b off z0 z1 z2, a = some ⟨b, off, none⟩ ∧ W.cell? ⟨b, off + i * 3, none⟩ = some z0 ∧ W.cell? ⟨b, off + i * 3 + 1, none⟩ = some z1 ∧ W.cell? ⟨b, off + i * 3 + 2, none⟩ = some z2 ∧ R q z0 z1 z2 := by
  rcases open_slice ht hf with ⟨hcs, _⟩ | ⟨x, l, c, m, n, D, Pl, hcs, _, hl, hm, hmm, hx', hx⟩
  · exact ⟨none, 0, [], hcs, Nat.le_refl _, by simp, by intro i q hq; simp at hq⟩
  · simp only [if_true] at hmm
    subst hmm
    have each : ∀ i, i < l → ∃ q : α, ∃ z0 z1 z2, W.cell? (x.add (i * 3)) = some z0 ∧ W.cell? (x.add (i * 3 + 1)) = some z1 ∧ W.cell? (x.add (i * 3 + 2)) = some z2 ∧ R q z0 z1 z2 := by
      intro i hi
      obtain ⟨cs', h1, h2⟩ := hx i (by omega)
      rw [ce] at h1
      obtain ⟨_, hlen, hcell⟩ := World.cells?_some h1
      obtain ⟨ys, k, hk, hxy, _, hxl, hg⟩ := DataW.trod_struct he h2
      match ys, hxl, cs', hlen with
      | [y0, y1, y2], _, [z0, z1, z2], _ =>
        have g0 := hg 0 f0 rfl
        have g1 := hg 1 f1 rfl
        have g2 := hg 2 f2 rfl
        simp [o0, o1, o2, c0, c1, c2] at g0 g1 g2
        obtain ⟨q, hq⟩ := one _ z0 z1 z2 _ _ _ g0 g1 g2
        have k0 := hcell 0 (by omega)
        have k1 := hcell 1 (by omega)
        have k2 := hcell 2 (by omega)
        rw [add_add] at k0 k1 k2
        simp at k0 k1 k2
        exact ⟨q, z0, z1, z2, k0, k1, k2, hq⟩
    obtain ⟨Z, hZ⟩ := choose_lt each
    refine ⟨some x, m, (List.range l).map Z, by rw [hcs]; simp, by simpa using hl, by simp; unfold maxLen at hm; omega, ?_⟩
    intro i q hq
    have hi : i < l := by
      have := (List.getElem?_eq_some_iff.1 hq).1
      simpa using this
    have hq' : q = Z i := by
      simp [hi] at hq
      exact hq.symm
    subst hq'
    obtain ⟨s0, _, _, hs0, _⟩ := hZ 0 (by omega)
    have hs := addr_none (by simpa using hs0)
    obtain ⟨b, off, sp⟩ := x
    simp at hs
    subst hs
    obtain ⟨z0, z1, z2, k0, k1, k2, hR⟩ := hZ i hi
    rw [Addr.add_lit] at k0 k1 k2
    exact ⟨b, off, z0, z1, z2, rfl, k0, by rw [Nat.add_assoc]; exact k1, by rw [Nat.add_assoc]; exact k2, hR⟩
end
end Go.Proofs.Ytnmigdcedcmbkaa
