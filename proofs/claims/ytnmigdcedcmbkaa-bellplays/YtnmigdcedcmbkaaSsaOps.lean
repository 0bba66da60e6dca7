/-
  Laws for single operations of a region of temporaries that are written once (module Ssa).
-/
import Derived.Test.YtnmigdcedcmbkaaSsa
import Derived.Test.YtnmigdcedcmbkaaMem
namespace Go.Proofs.Ytnmigdcedcmbkaa
open Go.RowKit
set_option linter.unusedVariables false
namespace Ssa
section
variable {P : Program} {af : Act} {C : Nat → World → Prop} {o : Oper} {s s' : Nat}

theorem good_of {d : Tmp} (v : Value) (hd : o.dst = some d) (hf : af.tmps[d]? = some v) (h : ∀ w, C s w → (execOp af.eval o).run P w = .ok (.value v) w) : Good P af C o s s := by
  intro w hw
  rw [h w hw]
  refine ⟨hw, fun d' hd' => ?_⟩
  rw [hd] at hd'
  obtain rfl := Option.some.inj hd'
  exact hf

theorem good_call {d : Tmp} (v : Value) (f : FuncId) (args : Array Value) (hd : o.dst = some d) (hf : af.tmps[d]? = some v) (hr : ∀ w, (execOp af.eval o).run P w = .ok (.enter f args) w)
    (h : ∀ w, C s w → Calls P f args w fun e w' => e = .returned v ∧ w' = w) : Good P af C o s s := by
  intro w hw
  rw [hr w]
  refine (h w hw).mono ?_
  rintro e w' ⟨rfl, rfl⟩
  refine ⟨v, rfl, hw, fun d' hd' => ?_⟩
  rw [hd] at hd'
  obtain rfl := Option.some.inj hd'
  exact hf

theorem good_store (ty : TypeId) (x y : Operand) (ho : o.op = .store ty x y) (hd : o.dst = none) (ad : Addr) (k : IntKind) (z : Int) (old : Value) (hx : af.eval x = .pointer (some ad)) (hy : af.eval y = .int k z)
    (hi : (P.info? ty).map (·.size) = some 1)
    (hc : ∀ w, C s w → w.cell? ad = some old ∧ w.frozen? ad = false) (hs : ∀ w, C s w → C s' (w.setCell ad (.int k z))) : Good P af C o s s' := by
  intro w hw
  obtain ⟨h2, h3⟩ := hc w hw
  have hr : (execOp af.eval o).run P w = .ok .skip (w.setCell ad (.int k z)) := by
    unfold execOp
    cases hq : P.info? ty with
    | none => simp [hq] at hi
    | some i =>
      have hsz : i.size = 1 := by simpa [hq] using hi
      simp only [ho, hx, hy]
      simp [Instr.storeAt, Instr.sureAddr, storeVar, sizeOf, typeInfo, hq, hsz, Value.cells, storeCells, h2, h3, go_sem]
  rw [hr]
  exact ⟨hs w hw, hd⟩

theorem run_addr {ρ : Operand → Value} (ty : TypeId) (x y : Operand) (n : Nat) (e : TypeId) (ho : o.op = .indexAddr ty x y) (g k : Nat) (hx : ρ x = .pointer (some ⟨g, 0, none⟩)) (hy : ρ y = .int .i64 (k : Int)) (hk : k < n)
    (hu : P.underlying ty = some (.array n e)) (hi : (P.info? e).map (·.size) = some 1) (w : World) : (execOp ρ o).run P w = .ok (.value (.pointer (some ⟨g, k, none⟩))) w := by
  unfold execOp
  cases hq : P.info? e with
  | none => simp [hq] at hi
  | some i =>
    have hsz : i.size = 1 := by simpa [hq] using hi
    have hk0 : (0 : Int) ≤ k := by omega
    have hk1 : (k : Int) < n := by omega
    simp only [ho, hx, hy]
    simp [hu, sizeOf, typeInfo, hq, hsz, hk0, hk1, go_sem]

theorem run_load {ρ : Operand → Value} (ty : TypeId) (x : Operand) (d : TypeDesc) (ho : o.op = .load ty x) (ad : Addr) (v : Value) (hx : ρ x = .pointer (some ad)) (hu : P.underlying ty = some d) (hn : (match d with | .struct _ | .array _ _ => true | _ => false) = false)
    (w : World) (hc : w.cell? ad = some v) : (execOp ρ o).run P w = .ok (.value v) w := by
  unfold execOp
  have hagg : (isAgg ty).run P w = .ok false w := by
    unfold isAgg
    rw [Sem.run_bind, run_underlying hu w]
    cases d <;> simp_all
  simp only [ho, hx]
  simp [Instr.loadAt, Instr.sureAddr, loadVar, Sem.run_bind, hagg, hc, go_sem]

theorem ev {t : Tmp} {v : Value} (h : af.tmps[t]? = some v) : af.eval (.tmp t) = v := by simp [Act.eval, h]
theorem run_mv {ρ : Operand → Value} {x : Operand} {v : Value} (ho : o.op = .move x) (hx : ρ x = v) (w : World) : (execOp ρ o).run P w = .ok (.value v) w := by
  unfold execOp; rw [ho, ← hx]; rfl
theorem run_nil {ρ : Operand → Value} {x : Operand} {ad : Addr} (ho : o.op = .nilCheck x) (hx : ρ x = .pointer (some ad)) (w : World) : (execOp ρ o).run P w = .ok (.value (.pointer (some ad))) w := by
  unfold execOp; rw [ho]; simp only [hx]; rfl
theorem run_ext {ρ : Operand → Value} {x : Operand} {vs : Array Value} {v : Value} (i : Nat) (ho : o.op = .extract x i) (hx : ρ x = .tuple vs) (hv : vs[i]? = some v) (w : World) : (execOp ρ o).run P w = .ok (.value v) w := by
  unfold execOp; rw [ho]; simp [hx, Instr.extract, hv, go_sem]

/-- A frame with some temporaries written. -/
def putAll (a : Act) (l : List (Tmp × Value)) : Act := { a with tmps := l.foldl (fun t p => t.setIfInBounds p.1 p.2) a.tmps }

theorem putAll_size (t : Array Value) (l : List (Tmp × Value)) : (l.foldl (fun t p => t.setIfInBounds p.1 p.2) t).size = t.size := by
  induction l generalizing t with
  | nil => rfl
  | cons p l ih => rw [List.foldl_cons, ih]; simp
theorem putAll_other (t : Array Value) (l : List (Tmp × Value)) (x : Tmp) (h : ∀ p ∈ l, p.1 ≠ x) : (l.foldl (fun t p => t.setIfInBounds p.1 p.2) t)[x]? = t[x]? := by
  induction l generalizing t with
  | nil => rfl
  | cons p l ih =>
    rw [List.foldl_cons, ih _ fun q hq => h q (List.mem_cons_of_mem _ hq)]
    exact Array.getElem?_setIfInBounds_ne (h p (by simp))

theorem region_put {Q : Exit → Act → World → Prop} {id : Nat} {l : List Oper} {a : Act} {w : World} (ks early : List Nat) (vs : List (Tmp × Value)) (C : Nat → World → Prop) (hm : P.follows .mixedOrders = true) (hB : okB l.toArray ks early = true)
    (hk : (vs.all fun p => l.any fun o => o.dst == some p.1) = true) (hC : C 0 (w.drewN 1))
    (hask : ∀ af, af = putAll a vs → AllAsked P af C ks early 0 l) (hQ : ∀ w, C ks.length w → Q .normal (putAll a vs) w) : (Code.region id l.toArray true).wp P Q a w := by
  refine region ks early (putAll a vs) C hm hB hC rfl (putAll_size _ _).symm (fun t ht => (putAll_other _ _ _ fun p hp e => ?_).symm) (hask _ rfl) hQ
  have := List.all_eq_true.1 hk p hp
  obtain ⟨o, ho, he⟩ := List.any_eq_true.1 this
  obtain ⟨i, hi, rfl⟩ := List.mem_iff_getElem.1 ho
  refine ht i l[i] (by simp [hi]) ?_
  rw [← e]
  simpa using he

theorem region_putG {Q : Exit → Act → World → Prop} {id : Nat} {l : List Oper} {a : Act} {w : World} (ks early : List Nat) (vs : List (Tmp × Value)) (C : Nat → World → Prop) (hm : P.follows .mixedOrders = true) (hB : okG l.toArray ks early = true)
    (hk : (vs.all fun p => l.any fun o => o.dst == some p.1) = true) (hgd : (l.all fun o => Region.wanted o (yielded l.toArray (putAll a vs).tmps)) = true) (hC : C 0 (w.drewN 1))
    (hask : ∀ af, af = putAll a vs → AllAsked P af C ks early 0 l) (hQ : ∀ w, C ks.length w → Q .normal (putAll a vs) w) : (Code.region id l.toArray true).wp P Q a w := by
  refine regionG ks early (putAll a vs) C hm hB hgd hC rfl (putAll_size _ _).symm (fun t ht => (putAll_other _ _ _ fun p hp e => ?_).symm) (hask _ rfl) hQ
  have := List.all_eq_true.1 hk p hp
  obtain ⟨o, ho, he⟩ := List.any_eq_true.1 this
  obtain ⟨i, hi, rfl⟩ := List.mem_iff_getElem.1 ho
  refine ht i l[i] (by simp [hi]) ?_
  rw [← e]
  simpa using he
theorem good_callC {d : Tmp} (v : Value) (f : FuncId) (args : Array Value) (hd : o.dst = some d) (hf : af.tmps[d]? = some v) (hr : ∀ w, (execOp af.eval o).run P w = .ok (.enter f args) w)
    (h : ∀ w, C s w → Calls P f args w fun e w' => e = .returned v ∧ C s w') : Good P af C o s s := by
  intro w hw
  rw [hr w]
  refine (h w hw).mono ?_
  rintro e w' ⟨rfl, hw'⟩
  refine ⟨v, rfl, hw', fun d' hd' => ?_⟩
  rw [hd] at hd'
  obtain rfl := Option.some.inj hd'
  exact hf
theorem run_asg {ρ : Operand → Value} {x : Operand} {v : Value} (ho : o.op = .assign x) (hx : ρ x = v) (w : World) : (execOp ρ o).run P w = .ok (.value v) w := by
  unfold execOp; rw [ho, ← hx]; rfl
theorem run_pick {ρ : Operand → Value} {c x y : Operand} {v : Value} (ho : o.op = .pick c x y) (hc : ρ c = .bool true) (hx : ρ x = v) (w : World) : (execOp ρ o).run P w = .ok (.value v) w := by
  unfold execOp; rw [ho]; simp [hc, hx, go_sem]

theorem any_of {ks early : List Nat} {i : Nat} (h1 : ks.contains i = false) (h2 : early.contains i = false) (h : ∀ s, s ≤ ks.length → Good P af C o s s) : Asked P af C ks early i o := by
  unfold Asked
  rw [if_neg (by rw [h1]; simp), if_neg (by rw [h2]; simp)]
  exact h
theorem early_of {ks early : List Nat} {i : Nat} (h1 : ks.contains i = false) (h2 : early.contains i = true) (h : Good P af C o 0 0) : Asked P af C ks early i o := by
  unfold Asked
  rw [if_neg (by rw [h1]; simp), if_pos h2]
  exact h
theorem store_of {ks early : List Nat} {i : Nat} (j : Nat) (h1 : ks.contains i = true) (h2 : ks.idxOf i = j) (h : Good P af C o j (j + 1)) : Asked P af C ks early i o := by
  unfold Asked
  rw [if_pos h1, h2]
  exact h

/-- The worlds of a region, by how many stores have come up. -/
def stages : List World → Nat → World → Prop
  | [], _, _ => False
  | W :: _, 0, w => w = W
  | _ :: l, s + 1, w => stages l s w
end
end Ssa
end Go.Proofs.Ytnmigdcedcmbkaa
