/-
  As module Ssm, where what is stored is known by a predicate alone.
-/
import Derived.Test.YthaaajepolahfaaSsm
namespace Go.Proofs.Ythaaajepolahfaa
open Go Go.RowKit
set_option linter.unusedVariables false
namespace Ssm
section
variable {P : Program} {Q : Exit → Act → World → Prop} {C : World → Prop} {D : Bool → Act → World → Prop} {Ext : World → World → Prop} {Ok : Tmp → Value → World → Prop} {n q : Nat} {ops : Array Oper} {told : List (Tmp × Option Bool)}

/-- What slot s points to: a new block, of zeros till it is stored into; then of cells that meet X. -/
def MkX (s B : Nat) (ty : TypeId) (zs : List Value) (X : Ssx.XP (Kp B ty)) (b : Bool) (a : Act) (w : World) : Prop :=
  ∀ x, a.eval (.tmp s) = .pointer (some x) → ∃ g, x = ⟨g, 0, none⟩ ∧ B ≤ g ∧ if b then ∃ cs : List Value, X.p (.agg cs.toArray) w ∧ Row w g ty cs else Row w g ty zs
theorem MkX.none {s B : Nat} {ty : TypeId} {zs : List Value} {X : Ssx.XP (Kp B ty)} {b : Bool} {a : Act} {w : World} (h : a.eval (.tmp s) = undef) : MkX s B ty zs X b a w := by
  intro x hx
  rw [h] at hx
  cases hx
theorem keepX {s B : Nat} {ty : TypeId} {zs : List Value} {X : Ssx.XP (Kp B ty)} {b : Bool} {o : Oper} (h : Ssb.Good P C Old Ok o) (hB : ∀ w, C w → B ≤ w.heap.size) (hd : (match o.dst with | some d => d != s | none => true) = true) : GoodD P C (MkX s B ty zs X) b b (Kp B ty) Ok o :=
  good_lift h (fun w w' hc ho => Kp.of_old (hB w hc) ho) fun a w w' u hc hD ho x hx => by
    have e : (a.put o.dst u).eval (.tmp s) = a.eval (.tmp s) := Act.eval_put (by
      intro d' hd' he
      rw [hd'] at hd
      cases he
      simp at hd)
    rw [e] at hx
    obtain ⟨g, h1, h2, h3⟩ := hD x hx
    refine ⟨g, h1, h2, ?_⟩
    cases b with
    | false => exact Row.mono h3 ho
    | true =>
      obtain ⟨cs, h4, h5⟩ := h3
      exact ⟨cs, X.st _ _ _ h4 (Kp.of_old (hB w hc) ho), h5.mono ho⟩
theorem allocX {s B : Nat} {ty : TypeId} {zs : List Value} {X : Ssx.XP (Kp B ty)} {o : Oper} (ho : o.op = .alloc ty) (hd : o.dst = some s) (hrun : ∀ w, (execOp (fun _ => undef) o).run P w = .ok (.value (.pointer (some ⟨w.heap.size, 0, none⟩))) (w.alloc (.cells zs.toArray ty)))
    (hC : ∀ w, C w → C (w.alloc (.cells zs.toArray ty))) (hB : ∀ w, C w → B ≤ w.heap.size) (hOk : ∀ g w, Ok s (.pointer (some ⟨g, 0, none⟩)) w) : GoodD P C (MkX s B ty zs X) false false (Kp B ty) Ok o := by
  intro a w hc hD hop
  have e : (execOp a.eval o).run P w = (execOp (fun _ => undef) o).run P w := by unfold execOp; simp only [ho]
  rw [e, hrun w]
  refine ⟨hC w hc, Kp.of_old (hB w hc) (Old.of_alloc _ _), fun d' hd' => ?_, fun x hx => ?_⟩
  · rw [hd] at hd'
    obtain rfl := Option.some.inj hd'
    exact hOk _ _
  · rw [hd] at hx
    by_cases hs : s < a.tmps.size
    · simp [Act.put, Act.eval, hs] at hx
      exact ⟨w.heap.size, hx.symm, hB w hc, Row.new _ _ _⟩
    · simp [Act.put, Act.eval, hs, undef] at hx
theorem storeX {s y B : Nat} {ty : TypeId} {zs : List Value} {X : Ssx.XP (Kp B ty)} {o : Oper} (ho : o.op = .store ty (.tmp s) (.tmp y)) (hd : o.dst = none) (hs : ∀ v w, Ok s v w → ∃ g, v = .pointer (some ⟨g, 0, none⟩))
    (hy : ∀ v w, Ok y v w → ∃ cs : List Value, v = .agg cs.toArray ∧ X.p v w ∧ (P.info? ty).map (·.size) = some cs.length ∧ zs.length = cs.length ∧ ∀ v ∈ cs, v.oneCell' = true)
    (hC : ∀ w g cs, C w → B ≤ g → Row w g ty zs → C (w.setRow g cs)) (hB : ∀ w, C w → B ≤ w.heap.size) : GoodD P C (MkX s B ty zs X) false true (Kp B ty) Ok o := by
  intro a w hc hD hop
  obtain ⟨g, hx⟩ := hs _ _ (hop s (by rw [ho]; simp [Op.operands]))
  obtain ⟨cs, hv, hX, hi, hl, h1⟩ := hy _ _ (hop y (by rw [ho]; simp [Op.operands]))
  obtain ⟨g', hg, hBg, R⟩ := hD _ hx
  obtain rfl : g = g' := by simpa using hg
  have R : Row w g ty zs := R
  have hr : (execOp a.eval o).run P w = .ok .skip (w.setRow g cs.toArray) := by
    unfold execOp
    simp only [ho, hx, hv, Instr.storeAt, Instr.sureAddr, Sem.run_bind, Sem.run_pure, Result.andThen_ok, run_store_whole R hi hl h1]
  rw [hr]
  have gr := grown_setRow w g cs.toArray
  have K : Kp B ty w (w.setRow g cs.toArray) := by
    refine ⟨Below.grown (Below.refl _ _) gr (hB w hc) (fun k e => by cases e; exact hBg), fun g2 t vs ht R2 => R2.grown gr ?_⟩
    rintro rfl
    unfold Row at R R2
    rw [R] at R2
    simp at R2
    exact ht R2.2.symm
  refine ⟨hC w g _ hc hBg R, K, hd, fun x hx' => ?_⟩
  rw [hd] at hx'
  simp only [Act.put] at hx'
  rw [hx] at hx'
  obtain rfl : x = ⟨g, 0, Option.none⟩ := by simpa using hx'.symm
  refine ⟨g, rfl, hBg, cs, ?_, R.whole cs⟩
  rw [hv] at hX
  exact X.st _ _ _ hX K
end
end Ssm
end Go.Proofs.Ythaaajepolahfaa
