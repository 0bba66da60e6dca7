/-
  Whole arrays out of and into a block that is known whole; a slice of such a block.
-/
import Derived.Test.YtnmigdcedcmbkaaMem
import Derived.Laws.Rows
import Derived.Laws.Tables
import Derived.Deep.WholeRow
namespace Go.Proofs.Ytnmigdcedcmbkaa
open Go.RowKit
set_option linter.unusedVariables false

section
variable {P : Program} {ops : Array Oper} {rest : List Oper} {o : Oper} {a : Act} {w : World} {Q : Exit → Act → World → Prop}

theorem wp_load_whole (hgd : o.guard = none) (ty : TypeId) (x : Operand) (ho : o.op = .load ty x) (g : Nat) (hx : a.eval x = .pointer (some ⟨g, 0, none⟩)) {t : TypeId} {vs : List Value} (R : Row w g t vs) {d : TypeDesc}
    (hu : P.underlying ty = some d) (hd : (match d with | .struct _ | .array _ _ => true | _ => false) = true) (hi : (P.info? ty).map (·.size) = some vs.length)
    (h : wpList P ops Q rest (a.put o.dst (.agg vs.toArray)) w) : wpList P ops Q (o :: rest) a w :=
  wpList_load_row hgd ty x ho g hx t vs.toArray (0, 0) d R hu hd (by simpa using hi) h

theorem run_store_whole {g : Nat} {ty t : TypeId} {vs cs : List Value} (R : Row w g t vs) (hi : (P.info? ty).map (·.size) = some cs.length) (hl : vs.length = cs.length) (h1 : ∀ v ∈ cs, v.oneCell' = true) :
    (storeVar ty ⟨g, 0, none⟩ (.agg cs.toArray)).run P w = .ok () (w.setRow g cs.toArray) :=
  run_storeVar_row w g t ty vs.toArray cs.toArray R (by simpa using hi) (by simpa using hl) (by simpa [Array.all_eq_true_iff_forall_mem] using h1)

theorem wp_store_whole (hgd : o.guard = none) (ty : TypeId) (x y : Operand) (ho : o.op = .store ty x y) (g : Nat) (hx : a.eval x = .pointer (some ⟨g, 0, none⟩)) (cs : List Value) (hy : a.eval y = .agg cs.toArray) {t : TypeId} {vs : List Value} (R : Row w g t vs)
    (hi : (P.info? ty).map (·.size) = some cs.length) (hl : vs.length = cs.length) (h1 : ∀ v ∈ cs, v.oneCell' = true)
    (h : ∀ w', w' = w.setRow g cs.toArray → wpList P ops Q rest (a.put o.dst undef) w') : wpList P ops Q (o :: rest) a w := by
  refine wpList_plain hgd fun K hK => ?_
  unfold Oper.wp execOp
  simp only [ho, hx, hy, Instr.storeAt, Instr.sureAddr, Sem.run_bind, Sem.run_pure, Result.andThen_ok, run_store_whole R hi hl h1]
  exact hK _ _ (h _ rfl)
end

theorem Row.whole {w : World} {g : Nat} {t : TypeId} {vs : List Value} (R : Row w g t vs) (cs : List Value) : Row (w.setRow g cs.toArray) g t cs :=
  setRow_heap w g vs.toArray cs.toArray t (0, 0) R
theorem grown_setRow (w : World) (g : Nat) (cs : Array Value) : w.grownBy (w.setRow g cs) (some g) :=
  ⟨rfl, rfl, rfl, by simp, fun k _ hk => setRow_other w g k cs (by simpa using hk)⟩

/-- Behind a result's cell. -/
theorem results_whole {P : Program} {fn : Func} {p : Tmp} {ty : TypeId} (h : fn.results = #[.cell p ty]) {tmps : Array Value} {w : World} {g : Nat} {t : TypeId} {vs : List Value} {d : TypeDesc}
    (hp : tmps.getD p undef = .pointer (some ⟨g, 0, none⟩)) (R : Row w g t vs)
    (hu : P.underlying ty = some d) (hd : (match d with | .struct _ | .array _ _ => true | _ => false) = true) (hi : (P.info? ty).map (·.size) = some vs.length) :
    (results fn tmps).run P w = .ok (.agg vs.toArray) w :=
  results_cell_row h tmps w g t vs.toArray (0, 0) d hp R hu hd (by simpa using hi)

/-- A slice of a block that is known whole. -/
theorem Row.part {w : World} {g : Nat} {t : TypeId} {vs : List Value} (R : Row w g t vs) (lo n : Nat) : Rd w (some ⟨g, lo, none⟩) ((vs.drop lo).take n) := by
  intro i v hv
  refine ⟨g, lo, rfl, ?_⟩
  refine R.cell ?_
  rw [List.getElem?_take] at hv
  split at hv
  · simpa using hv
  · cases hv

theorem run_part {P : Program} {t e : TypeId} {n : Nat} (hu : P.underlying t = some (.array n e)) (hi : (P.info? e).map (·.size) = some 1) (g lo hi' : Nat) (h1 : lo ≤ hi') (h2 : hi' ≤ n) (hlt : lo < n) {x y : Int} (hx : x = lo) (hy : y = hi') (w : World) :
    (Instr.sliceAt t (.pointer (some ⟨g, 0, none⟩)) (some (.int .i64 x)) (some (.int .i64 y)) none).run P w = .ok (.slice (some ⟨g, lo, none⟩) (hi' - lo) (n - lo)) w := by
  subst hx hy
  have hn : P.arrayLen t = n := by simp [Program.arrayLen, hu]
  have he : P.elem t = e := by simp [Program.elem, hu]
  rw [run_sliceAt_array_lh w t ⟨g, 0, none⟩ (by rw [hn, he]; exact hu) .i64 .i64 lo hi' (by omega) (by omega) (by rw [hn]; omega), hn, he]
  cases hq : P.info? e with
  | none => simp [hq] at hi
  | some i =>
    have hsz : i.size = 1 := by simpa [hq] using hi
    have hne : ¬ n = lo := by omega
    simp [sizeOf, typeInfo, hq, hsz, slicedAt, hne, go_sem]
end Go.Proofs.Ytnmigdcedcmbkaa
