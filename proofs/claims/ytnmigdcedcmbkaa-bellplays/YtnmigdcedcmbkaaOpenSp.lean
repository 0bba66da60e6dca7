/-
  What a walk is told of a bool, and of a slice of steps (three ints each), out of their reading as data.
-/
import Derived.Test.YtnmigdcedcmbkaaOpen
import Derived.Test.YtnmigdcedcmbkaaOpenTri
import Derived.Test.YtnmigdcedcmbkaaPlanN
namespace Go.Proofs.Ytnmigdcedcmbkaa
open Go.RowKit Go.ChangeShapes Go.WideShapes Go.ChangeAt Pn
set_option linter.unusedVariables false

def IsBool (v : Value) : Prop := ∃ b : Bool, v = .bool b
/-- A step: what, who, when. -/
structure Stp where
  what : Int
  who : Int
  at_ : Int
instance : Inhabited Stp := ⟨⟨0, 0, 0⟩⟩
/-- Behind the address a lie these steps. -/
def StpIn (w : World) (a : Option Addr) (l : List Stp) : Prop :=
  ∀ (i : Nat) (x : Stp), l[i]? = some x → ∃ b off, a = some ⟨b, off, none⟩ ∧ w.cell? ⟨b, off + i * 3, none⟩ = some (.int .i64 x.what) ∧ w.cell? ⟨b, off + i * 3 + 1, none⟩ = some (.int .i64 x.who) ∧ w.cell? ⟨b, off + i * 3 + 2, none⟩ = some (.int .i64 x.at_)
theorem StpIn.mono {w w' : World} {a : Option Addr} {l : List Stp} (h : StpIn w a l) (o : Old w w') : StpIn w' a l := by
  intro i x hx
  obtain ⟨b, off, ha, h1, h2, h3⟩ := h i x hx
  exact ⟨b, off, ha, (Below.cell o (World.block_lt_of_cell? w _ h1)).trans h1, (Below.cell o (World.block_lt_of_cell? w _ h2)).trans h2, (Below.cell o (World.block_lt_of_cell? w _ h3)).trans h3⟩
def IsStps (w : World) (v : Value) : Prop := ∃ (a : Option Addr) (cap : Nat) (l : List Stp), v = .slice a l.length cap ∧ l.length ≤ cap ∧ l.length ≤ 9223372036854775807 ∧ StpIn w a l ∧ ∀ x ∈ l, B64 x.what ∧ B64 x.who ∧ B64 x.at_

section
variable {H : Type} {enc : TypeId × Value → H} {P : Program} {W : World} {base : Nat}
theorem open_isBool {t : TypeId} {v : Value} {d : DataW H} {p : List MemPlace} (ht : P.underlying t = some .bool) (hv : Value.okWide P W .any base t v)
    (h : DataW.Trod enc P W 0 (fun _ => true) true t v d p) : IsBool v := by
  obtain ⟨b, rfl, _, _⟩ := open_bool ht hv h
  exact ⟨b, rfl⟩
theorem stp_int {t : TypeId} {n : Nat} {z : Value} {y : DataW H × List MemPlace} (ht : P.underlying t = some (.int .i64)) (h : DataW.trod enc P W 0 (fun _ => true) true n t [z] = some y) : ∃ x : Int, z = .int .i64 x ∧ B64 x := by
  obtain ⟨x, e, _, w⟩ := DataW.trod_int ht h
  have b := bounds_i64 w
  simp at e
  exact ⟨x, e, by unfold B64; omega⟩
theorem open_isStps {t e : TypeId} {f0 f1 f2 : Field} {v : Value} {d : DataW H} {p : List MemPlace} (ht : P.underlying t = some (.slice e)) (he : P.underlying e = some (.struct #[f0, f1, f2])) (ce : P.cellsOf e = 3)
    (o0 : f0.offset = 0) (o1 : f1.offset = 1) (o2 : f2.offset = 2) (c0 : P.cellsOf f0.type = 1) (c1 : P.cellsOf f1.type = 1) (c2 : P.cellsOf f2.type = 1)
    (u0 : P.underlying f0.type = some (.int .i64)) (u1 : P.underlying f1.type = some (.int .i64)) (u2 : P.underlying f2.type = some (.int .i64))
    (hv : Value.okWide P W .any base t v) (h : DataW.Trod enc P W 0 (fun _ => true) true t v d p) : IsStps W v := by
  obtain ⟨a, len, cap, rfl⟩ := okWide_slice ht hv
  obtain ⟨fuel, hf⟩ := h
  obtain ⟨a', cap', L, hcs, h1, h2, h3⟩ := open_tri (α := Stp) (R := fun q z0 z1 z2 => (z0 = .int .i64 q.what ∧ z1 = .int .i64 q.who ∧ z2 = .int .i64 q.at_) ∧ B64 q.what ∧ B64 q.who ∧ B64 q.at_) ht he ce o0 o1 o2 c0 c1 c2
    (fun n z0 z1 z2 y0 y1 y2 t0 t1 t2 => by
      obtain ⟨x0, e0, b0⟩ := stp_int u0 t0
      obtain ⟨x1, e1, b1⟩ := stp_int u1 t1
      obtain ⟨x2, e2, b2⟩ := stp_int u2 t2
      exact ⟨⟨x0, x1, x2⟩, ⟨e0, e1, e2⟩, b0, b1, b2⟩) hf
  simp [Value.cells] at hcs
  obtain ⟨rfl, rfl, rfl⟩ := hcs
  refine ⟨_, _, L, rfl, h1, h2, fun i x hx => ?_, fun x hx => ?_⟩
  · obtain ⟨b, off, z0, z1, z2, ha, k0, k1, k2, ⟨rfl, rfl, rfl⟩, _⟩ := h3 i x hx
    exact ⟨b, off, ha, k0, k1, k2⟩
  · obtain ⟨i, hi, rfl⟩ := List.mem_iff_getElem.1 hx
    obtain ⟨b, off, z0, z1, z2, ha, k0, k1, k2, _, hb⟩ := h3 i L[i] (by simp [hi])
    exact hb
end
end Go.Proofs.Ytnmigdcedcmbkaa
