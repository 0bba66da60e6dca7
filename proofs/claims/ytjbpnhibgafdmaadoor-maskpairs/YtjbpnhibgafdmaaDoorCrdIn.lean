/-
  Cards in memory: slices of api.Card that came in.
-/
import Derived.Test.YtjbpnhibgafdmaaDoorOpenTri
namespace Go.Proofs.YtjbpnhibgafdmaaDoor
open Go.RowKit Go.ChangeShapes Go.WideShapes Go.ChangeAt Go.Deep
set_option linter.unusedVariables false

/-- A card's numbers. -/
structure Crd where
  who : Int
  lock : Nat
  key : Nat
instance : Inhabited Crd := ⟨⟨0, 0, 0⟩⟩
/-- A card's cells. -/
def Crd.cells (c : Crd) : List Value := [.int .i64 c.who, .int .u64 (c.lock : Nat), .int .u64 (c.key : Nat)]
/-- Behind the address a lie these cards. -/
def CrdIn (w : World) (a : Option Addr) (l : List Crd) : Prop :=
  ∀ (i : Nat) (x : Crd), l[i]? = some x → ∃ b off, a = some ⟨b, off, none⟩ ∧ w.cell? ⟨b, off + i * 3, none⟩ = some (.int .i64 x.who) ∧ w.cell? ⟨b, off + i * 3 + 1, none⟩ = some (.int .u64 (x.lock : Nat)) ∧ w.cell? ⟨b, off + i * 3 + 2, none⟩ = some (.int .u64 (x.key : Nat))
theorem CrdIn.mono {w w' : World} {a : Option Addr} {l : List Crd} (h : CrdIn w a l) (o : Old w w') : CrdIn w' a l := by
  intro i x hx
  obtain ⟨b, off, ha, h1, h2, h3⟩ := h i x hx
  exact ⟨b, off, ha, (Below.cell o (World.block_lt_of_cell? w _ h1)).trans h1, (Below.cell o (World.block_lt_of_cell? w _ h2)).trans h2, (Below.cell o (World.block_lt_of_cell? w _ h3)).trans h3⟩
theorem CrdIn.take {w : World} {a : Option Addr} {l : List Crd} (h : CrdIn w a l) (n : Nat) : CrdIn w a (l.take n) := by
  intro i x hx
  rw [List.getElem?_take] at hx
  split at hx
  · exact h i x hx
  · cases hx
/-- The numbers are such as can be. -/
def CrdOk (l : List Crd) : Prop := ∀ x ∈ l, -9223372036854775808 ≤ x.who ∧ x.who ≤ 9223372036854775807 ∧ x.lock < 18446744073709551616 ∧ x.key < 18446744073709551616
/-- A slice of cards that came in. -/
def IsCards (w : World) (v : Value) : Prop := ∃ (a : Option Addr) (cap : Nat) (l : List Crd), v = .slice a l.length cap ∧ l.length ≤ cap ∧ l.length ≤ 9223372036854775807 ∧ CrdIn w a l ∧ CrdOk l

section
variable {H : Type} {enc : TypeId × Value → H} {P : Program} {W : World} {base : Nat}
theorem tri_int {t : TypeId} {n : Nat} {z : Value} {y : DataW H × List MemPlace} (ht : P.underlying t = some (.int .i64)) (h : DataW.trod enc P W 0 (fun _ => true) true n t [z] = some y) : ∃ x : Int, z = .int .i64 x ∧ -9223372036854775808 ≤ x ∧ x ≤ 9223372036854775807 := by
  obtain ⟨x, e, _, w⟩ := DataW.trod_int ht h
  have b := bounds_i64 w
  simp at e
  exact ⟨x, e, by omega, by omega⟩
theorem tri_u64 {t : TypeId} {n : Nat} {z : Value} {y : DataW H × List MemPlace} (ht : P.underlying t = some (.int .u64)) (h : DataW.trod enc P W 0 (fun _ => true) true n t [z] = some y) : ∃ x : Nat, z = .int .u64 (x : Nat) ∧ x < 18446744073709551616 := by
  obtain ⟨x, e, _, w⟩ := DataW.trod_int ht h
  have b := bounds_u64 w
  simp at e
  exact ⟨x.toNat, by rw [e, Int.toNat_of_nonneg (by omega)], by omega⟩
theorem open_isCards {t e : TypeId} {f0 f1 f2 : Field} {v : Value} {d : DataW H} {p : List MemPlace} (ht : P.underlying t = some (.slice e)) (he : P.underlying e = some (.struct #[f0, f1, f2])) (ce : P.cellsOf e = 3)
    (o0 : f0.offset = 0) (o1 : f1.offset = 1) (o2 : f2.offset = 2) (c0 : P.cellsOf f0.type = 1) (c1 : P.cellsOf f1.type = 1) (c2 : P.cellsOf f2.type = 1)
    (u0 : P.underlying f0.type = some (.int .i64)) (u1 : P.underlying f1.type = some (.int .u64)) (u2 : P.underlying f2.type = some (.int .u64))
    (hv : Value.okWide P W .any base t v) (h : DataW.Trod enc P W 0 (fun _ => true) true t v d p) : IsCards W v := by
  obtain ⟨a, len, cap, rfl⟩ := okWide_slice ht hv
  obtain ⟨fuel, hf⟩ := h
  obtain ⟨a', cap', L, hcs, h1, h2, h3⟩ := open_tri (α := Crd) (R := fun q z0 z1 z2 => (z0 = .int .i64 q.who ∧ z1 = .int .u64 (q.lock : Nat) ∧ z2 = .int .u64 (q.key : Nat)) ∧ -9223372036854775808 ≤ q.who ∧ q.who ≤ 9223372036854775807 ∧ q.lock < 18446744073709551616 ∧ q.key < 18446744073709551616) ht he ce o0 o1 o2 c0 c1 c2
    (fun n z0 z1 z2 y0 y1 y2 t0 t1 t2 => by
      obtain ⟨x0, e0, b0, b0'⟩ := tri_int u0 t0
      obtain ⟨x1, e1, b1⟩ := tri_u64 u1 t1
      obtain ⟨x2, e2, b2⟩ := tri_u64 u2 t2
      exact ⟨⟨x0, x1, x2⟩, ⟨e0, e1, e2⟩, b0, b0', b1, b2⟩) hf
  simp [Value.cells] at hcs
  obtain ⟨rfl, rfl, rfl⟩ := hcs
  refine ⟨_, _, L, rfl, h1, h2, fun i x hx => ?_, fun x hx => ?_⟩
  · obtain ⟨b, off, z0, z1, z2, ha, k0, k1, k2, ⟨rfl, rfl, rfl⟩, _⟩ := h3 i x hx
    exact ⟨b, off, ha, k0, k1, k2⟩
  · obtain ⟨i, hi, rfl⟩ := List.mem_iff_getElem.1 hx
    obtain ⟨b, off, z0, z1, z2, ha, k0, k1, k2, _, hb⟩ := h3 i L[i] (by simp [hi])
    exact hb
end
end Go.Proofs.YtjbpnhibgafdmaaDoor
