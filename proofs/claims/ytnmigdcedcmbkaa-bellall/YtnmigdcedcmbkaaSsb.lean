/-
  A region that draws its order, told by predicates: each temporary's value meets its predicate in the world at hand, whatever order is drawn, if each operation makes it so in every world of a class, and the predicates outlast every step.
-/
import Derived.Test.YtnmigdcedcmbkaaSsaOps
namespace Go.Proofs.Ytnmigdcedcmbkaa
open Go
set_option linter.unusedVariables false
namespace Ssb

section
variable {P : Program} {ops : Array Oper} {Q : Exit → Act → World → Prop} {C : World → Prop} {Ext : World → World → Prop} {Ok : Tmp → Value → World → Prop} {n : Nat}

/-- The operation, run in a world of the class over operands that meet their predicates, yields what meets its own. -/
def Good (P : Program) (C : World → Prop) (Ext : World → World → Prop) (Ok : Tmp → Value → World → Prop) (o : Oper) : Prop :=
  ∀ (a : Act) (w : World), C w → (∀ t, Operand.tmp t ∈ o.op.operands → Ok t (a.eval (.tmp t)) w) →
    match (execOp a.eval o).run P w with
    | .ok (.value u) w' => C w' ∧ Ext w w' ∧ ∀ d, o.dst = some d → Ok d u w'
    | .ok .skip w' => C w' ∧ Ext w w' ∧ o.dst = none
    | .ok (.enter f args) w' => Calls P f args w' (fun e w'' => ∃ u, e = .returned u ∧ C w'' ∧ Ext w w'' ∧ ∀ d, o.dst = some d → Ok d u w'')
    | _ => False

def AllGood (P : Program) (C : World → Prop) (Ext : World → World → Prop) (Ok : Tmp → Value → World → Prop) : List Oper → Prop
  | [] => True
  | o :: l => Good P C Ext Ok o ∧ AllGood P C Ext Ok l
theorem allGood_at : ∀ (l : List Oper), AllGood P C Ext Ok l → ∀ (i : Nat) (o : Oper), l[i]? = some o → Good P C Ext Ok o
  | [], _, _, _, h => by simp at h
  | o :: l, h, 0, o', e => by simp at e; subst e; exact h.1
  | o :: l, h, i + 1, o', e => allGood_at l h.2 i o' (by simpa using e)

def inB (n : Nat) (o : Oper) : Bool :=
  (match o.dst with | some d => decide (d < n) | none => true) && (o.op.operands.all fun x => match x with | .tmp t => decide (t < n) | _ => true)

structure Inv (ops : Array Oper) (C : World → Prop) (Ok : Tmp → Value → World → Prop) (n : Nat) (ds : List Deferred) (fuel : Nat) (listed : Array Bool) (a : Act) (w : World) : Prop where
  size : listed.size = ops.size
  left : listed.toList.count false = fuel
  world : C w
  defers : a.defers = ds
  slots : a.tmps.size = n
  holds : ∀ t, t < n → (∀ (i : Nat) (o : Oper), ops[i]? = some o → o.dst = some t → listed.getD i false = true) → Ok t (a.eval (.tmp t)) w

theorem walk {ds : List Deferred} (F : Ssa.Fits ops [] []) (hin : ∀ (i : Nat) (o : Oper), ops[i]? = some o → inB n o = true) (hgood : ∀ (i : Nat) (o : Oper), ops[i]? = some o → Good P C Ext Ok o)
    (hst : ∀ t v w w', Ok t v w → Ext w w' → Ok t v w')
    (hgd : ∀ (i : Nat) (o : Oper) (j : Nat) (b : Bool) (t : Tmp), ops[i]? = some o → o.guard = some (j, b) → (ops[j]?).bind (·.dst) = some t → t < n ∧ ∀ v w, Ok t v w → v = .bool b)
    (hQ : ∀ a w, C w → a.defers = ds → a.tmps.size = n → (∀ t, t < n → Ok t (a.eval (.tmp t)) w) → Q .normal a w) :
    ∀ (fuel : Nat) (listed : Array Bool) (a : Act) (w : World), Inv ops C Ok n ds fuel listed a w → wpAny P .any ops Q fuel listed a w := by
  have fin : ∀ (fuel : Nat) (listed : Array Bool) (a : Act) (w : World), Inv ops C Ok n ds fuel listed a w → Region.ready .any ops listed = [] → Q .normal a w := by
    intro fuel listed a w I hr
    have hall := Ssa.all_listed F I.size hr
    exact hQ a w I.world I.defers I.slots fun t ht => I.holds t ht fun i o ho _ => hall i o ho
  intro fuel
  induction fuel with
  | zero =>
    intro listed a w I
    have hr : Region.ready .any ops listed = [] := by
      cases hc : Region.ready .any ops listed with
      | nil => rfl
      | cons i l =>
        have hm : i ∈ Region.ready .any ops listed := by rw [hc]; simp
        obtain ⟨_, hf⟩ := Ssa.getD_true (mem_ready.1 hm).1
        have h0 := I.left
        rw [List.count_eq_zero] at h0
        exact absurd (List.mem_of_getElem? (by simpa using hf)) h0
    exact ⟨hr, fin _ _ _ _ I hr⟩
  | succ fuel ih =>
    intro listed a w I
    refine ⟨fin _ _ _ _ I, fun i hi => ?_⟩
    obtain ⟨hun, o, ho, hall⟩ := mem_ready.1 hi
    obtain ⟨hlt, hf⟩ := Ssa.getD_true hun
    have hi' := hin i o ho
    simp only [inB, Bool.and_eq_true] at hi'
    have hops : ∀ t, Operand.tmp t ∈ o.op.operands → Ok t (a.eval (.tmp t)) w := by
      intro t ht
      have h4 := Array.all_eq_true_iff_forall_mem.1 hi'.2 _ ht
      refine I.holds t (by simpa using h4) fun j o' ho' hd => ?_
      obtain ⟨e, he, hb, rfl⟩ := F.data i o ho t ht j o' ho' hd
      exact hall e he hb
    have hw : Region.wanted o (yielded ops a.tmps) = true := by
      rcases F.guard i o ho with h0 | ⟨j, b, t, h0, hd, hwr⟩
      · simp [Region.wanted, h0]
      · obtain ⟨htn, hv⟩ := hgd i o j b t ho h0 hd
        have h2 := hv _ _ (I.holds t htn fun k o' ho' hd' => by
          obtain ⟨e, he, hb, rfl⟩ := hwr k o' ho' hd'
          exact hall e he hb)
        have h3 : a.tmps[t]? = some (.bool b) := by
          have hs : t < a.tmps.size := by rw [I.slots]; exact htn
          simp [Act.eval, hs] at h2
          simp [hs, h2]
        simp [Region.wanted, h0, yielded, hd, h3]
    have hg := hgood i o ho a w I.world hops
    have next : ∀ (u : Value) (w' : World), C w' → Ext w w' → (∀ d, o.dst = some d → Ok d u w') → Inv ops C Ok n ds fuel (listed.setIfInBounds i true) (a.put o.dst u) w' := by
      intro u w' hC hE hd
      have hput : (a.put o.dst u).tmps.size = a.tmps.size ∧ (a.put o.dst u).defers = a.defers := by
        cases hdst : o.dst <;> simp [Act.put]
      refine ⟨by simpa using I.size, ?_, hC, hput.2.trans I.defers, hput.1.trans I.slots, ?_⟩
      · have := Ssa.count_set (l := listed.toList) (i := i) (by simpa using hf)
        have h0 := I.left
        simp only [Array.toList_setIfInBounds]
        omega
      · intro t htn ht
        have hold : o.dst ≠ some t → Ok t (a.eval (.tmp t)) w' := fun hne => hst _ _ _ _ (I.holds t htn fun j o' ho' hd' => by
          rcases Ssa.getD_set.1 (ht j o' ho' hd') with h' | ⟨rfl, _⟩
          · exact h'
          · rw [ho] at ho'
            obtain rfl := Option.some.inj ho'
            exact absurd hd' hne) hE
        cases hdst : o.dst with
        | none => simp only [Act.put]; exact hold (by rw [hdst]; simp)
        | some d =>
          by_cases hdt : d = t
          · subst hdt
            have hds : d < a.tmps.size := by rw [I.slots]; exact htn
            have hv := hd d hdst
            simpa [Act.eval, Act.put, hds] using hv
          · have hv := hold (by rw [hdst]; simpa using hdt)
            rw [Act.eval_put (by intro d' hd' e; cases hd'; cases e; exact hdt rfl)]
            exact hv
    unfold wpOp
    simp only [ho, hw, if_true]
    refine .inl ?_
    unfold Oper.wp
    generalize (execOp a.eval o).run P w = r at hg
    cases r with
    | ok m w' =>
      cases m with
      | value u => exact ih _ _ _ (next u w' hg.1 hg.2.1 hg.2.2)
      | skip =>
        refine ih _ _ _ (next undef w' hg.1 hg.2.1 fun d hd => ?_)
        rw [hg.2.2] at hd; cases hd
      | enter f args =>
        refine Calls.mono hg fun e w'' he => ?_
        obtain ⟨u, rfl, hC, hE, hd⟩ := he
        exact ih _ _ _ (next u w'' hC hE hd)
      | _ => exact hg.elim
    | halt x w' => exact hg.elim

/-- Each guard looks at a temporary below n whose predicate tells its value. -/
def guardsB (ops : Array Oper) (n : Nat) (told : List (Tmp × Bool)) : Bool :=
  ops.all fun o => match o.guard with
    | none => true
    | some (j, b) => match (ops[j]?).bind (·.dst) with | some t => decide (t < n) && told.contains (t, b) | none => false

/-- A region by predicates. -/
theorem region {id : Nat} {l : List Oper} {a : Act} {w : World} (C : World → Prop) (Ext : World → World → Prop) (Ok : Tmp → Value → World → Prop) (told : List (Tmp × Bool)) (hm : P.follows .mixedOrders = true) (hB : Ssa.okG l.toArray [] [] = true)
    (hin : (l.all (inB a.tmps.size)) = true) (hgu : guardsB l.toArray a.tmps.size told = true) (htold : ∀ t b, (t, b) ∈ told → ∀ v w, Ok t v w → v = .bool b)
    (hst : ∀ t v w w', Ok t v w → Ext w w' → Ok t v w')
    (hC : C (w.drewN 1)) (h0 : ∀ t, t < a.tmps.size → (∀ (i : Nat) (o : Oper), l.toArray[i]? = some o → o.dst ≠ some t) → Ok t (a.eval (.tmp t)) (w.drewN 1))
    (hgood : AllGood P C Ext Ok l) (hQ : ∀ a' w', C w' → a'.defers = a.defers → a'.tmps.size = a.tmps.size → (∀ t, t < a.tmps.size → Ok t (a'.eval (.tmp t)) w') → Q .normal a' w') : (Code.region id l.toArray true).wp P Q a w := by
  have F := Ssa.fits_ofG hB
  refine wp_region_any hm (walk (Ext := Ext) F (fun i o ho => List.all_eq_true.1 hin o (List.mem_of_getElem? (by simpa using ho))) (fun i o ho => allGood_at l hgood i o (by simpa using ho)) hst ?_ hQ _ _ _ _ ⟨by simp, by simp, hC, rfl, rfl, ?_⟩)
  · intro i o j b t ho hg hd
    have := Array.all_eq_true_iff_forall_mem.1 hgu o (Array.mem_of_getElem? ho)
    simp only [hg, hd, Bool.and_eq_true, decide_eq_true_eq] at this
    exact ⟨this.1, htold t b (by simpa using this.2)⟩
  · intro t ht hw
    refine h0 t ht fun i o ho hd => ?_
    have := hw i o ho hd
    simp [Array.getElem?_replicate] at this
    split at this <;> simp_all
end
end Ssb
end Go.Proofs.Ytnmigdcedcmbkaa
