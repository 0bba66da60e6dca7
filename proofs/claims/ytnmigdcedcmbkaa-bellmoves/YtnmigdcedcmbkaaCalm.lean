/-
  A region that draws its order, whose own operations only read, and whose callees change nothing old (they may make memory): one walk, in the order of the text, over the worlds behind this one.
-/
import Derived.Test.YtnmigdcedcmbkaaMem
import Derived.Deep.MidRow
namespace Go.Proofs.Ytnmigdcedcmbkaa
open Go.RowKit
set_option linter.unusedVariables false

/-- A world behind w in which nothing old has turned. -/
structure After (w : World) where
  to : World
  old : Old w to
theorem After.cell {w : World} (x : After w) {a : Addr} {v : Value} (h : w.cell? a = some v) : x.to.cell? a = some v := (Below.cell x.old (World.block_lt_of_cell? w _ h)).trans h

theorem wp_region_calm {P : Program} {id : Nat} {Q : Exit → Act → World → Prop} {a : Act} {w : World} {l : List Oper} (hm : P.follows .mixedOrders = true) (hB : Region.lexB .any l.toArray = true)
    (h : wpQuiet P l.toArray (fun w' => ∃ x : After w, w' = x.to) (fun a' => ∀ w', (∃ x : After w, w' = x.to) → Q .normal a' w') l a) : (Code.region id l.toArray true).wp P Q a w :=
  wp_region_quiet (C := fun w' => ∃ x : After w, w' = x.to) hm hB ⟨⟨w.drewN 1, Old.of_drewN _ _⟩, rfl⟩ (by simpa using h)

theorem calm_of {P : Program} {f : FuncId} {args : Array Value} {w : World} {x : After w} {v : Value}
    (h : Calls P f args x.to fun e w' => e = .returned v ∧ Old x.to w') : Calls P f args x.to fun e w'' => e = .returned v ∧ ∃ y : After w, w'' = y.to :=
  h.mono fun _ w' ⟨he, ho⟩ => ⟨he, ⟨w', x.old.trans ho⟩, rfl⟩

/-- A whole array or struct, in every world of the class. -/
theorem quiet_whole {P : Program} {o : Oper} {a : Act} {C : World → Prop} {K : Act → Prop} (ty : TypeId) (x : Operand) (ho : o.op = .load ty x) (g : Nat) (hx : a.eval x = .pointer (some ⟨g, 0, none⟩)) (cs : List Value) (hR : ∀ w, C w → w.rangeAt g 0 cs) {d : TypeDesc}
    (hu : P.underlying ty = some d) (hd : d.isRow = true) (hi : (P.info? ty).map (·.size) = some cs.length) (hk : K (a.put o.dst (.agg cs.toArray))) : o.quiet P a C K :=
  ⟨_, fun w hw => by
    unfold Oper.quietAt execOp
    simp only [ho, hx, Sem.run_bind, Sem.run_pure, Result.andThen_ok, run_loadAt_mid w g 0 ty cs d (hR w hw) hu hd hi]
    exact ⟨rfl, rfl⟩, hk⟩
end Go.Proofs.Ytnmigdcedcmbkaa
