/-
  A region that draws its order, told by predicates (modules Ssb, Ssx), in which guards may say no, too: what stands behind such a guard is not run.
-/
import Derived.Test.YtnmigdcedcmbkaaSsx
namespace Go.Proofs.Ytnmigdcedcmbkaa
open Go Go.RowKit
set_option linter.unusedVariables false
namespace Ssy

/-- What is told of a temporary that a guard looks at: a Boolean, or that it was never run. -/
def valOf : Option Bool → Value
  | some b => .bool b
  | none => undef
theorem valOf_ne {x : Option Bool} {b : Bool} (h : (x == some b) = false) : valOf x ≠ .bool b := by
  cases x with
  | none => intro e; simp [valOf, undef] at e
  | some c => intro e; simp [valOf] at e; subst e; simp at h

section
variable {P : Program} {Q : Exit → Act → World → Prop} {C : World → Prop} {Ext : World → World → Prop} {Ok : Tmp → Value → World → Prop} {n : Nat} {ops : Array Oper} {told : List (Tmp × Option Bool)}

/-- The temporary that the operation's guard looks at. -/
def gTmp (ops : Array Oper) (j : Nat) : Option Tmp := (ops[j]?).bind (·.dst)
def metB (ops : Array Oper) (n : Nat) (told : List (Tmp × Option Bool)) (o : Oper) : Bool :=
  match o.guard with
  | none => true
  | some (j, b) => match gTmp ops j with
    | some t => decide (t < n) && (match told.lookup t with | some x => x == some b | none => false)
    | none => false
def skipB (ops : Array Oper) (n : Nat) (told : List (Tmp × Option Bool)) (o : Oper) : Bool :=
  match o.guard with
  | none => false
  | some (j, b) => match gTmp ops j with
    | some t => decide (t < n) && (match told.lookup t with | some x => !(x == some b) | none => false) && (match o.dst with | some d => told.lookup d == some none | none => true)
    | none => false

def AllGood (P : Program) (C : World → Prop) (Ext : World → World → Prop) (Ok : Tmp → Value → World → Prop) (ops : Array Oper) (n : Nat) (told : List (Tmp × Option Bool)) : List Oper → Prop
  | [] => True
  | o :: l => (skipB ops n told o = true ∨ metB ops n told o = true ∧ Ssb.Good P C Ext Ok o) ∧ AllGood P C Ext Ok ops n told l
theorem allGood_at : ∀ (l : List Oper), AllGood P C Ext Ok ops n told l → ∀ (i : Nat) (o : Oper), l[i]? = some o → skipB ops n told o = true ∨ metB ops n told o = true ∧ Ssb.Good P C Ext Ok o
  | [], _, _, _, h => by simp at h
  | o :: l, h, 0, o', e => by simp at e; subst e; exact h.1
  | o :: l, h, i + 1, o', e => allGood_at l h.2 i o' (by simpa using e)

theorem walk {ds : List Deferred} (F : Ssa.Fits ops [] []) (hin : ∀ (i : Nat) (o : Oper), ops[i]? = some o → Ssb.inB n o = true)
    (hgood : ∀ (i : Nat) (o : Oper), ops[i]? = some o → skipB ops n told o = true ∨ metB ops n told o = true ∧ Ssb.Good P C Ext Ok o)
    (hr : ∀ w, Ext w w) (hst : ∀ t v w w', Ok t v w → Ext w w' → Ok t v w') (htold : ∀ t x, told.lookup t = some x → ∀ v w, Ok t v w ↔ v = valOf x)
    (hQ : ∀ a w, C w → a.defers = ds → a.tmps.size = n → (∀ t, t < n → Ok t (a.eval (.tmp t)) w) → Q .normal a w) :
    ∀ (fuel : Nat) (listed : Array Bool) (a : Act) (w : World), Ssb.Inv ops C Ok n ds fuel listed a w → wpAny P .any ops Q fuel listed a w := by
  have fin : ∀ (fuel : Nat) (listed : Array Bool) (a : Act) (w : World), Ssb.Inv ops C Ok n ds fuel listed a w → Region.ready .any ops listed = [] → Q .normal a w := by
    intro fuel listed a w I hr
    have hall := Ssa.all_listed F I.size hr
    exact hQ a w I.world I.defers I.slots fun t ht => I.holds t ht fun i o ho _ => hall i o ho
  intro fuel
  induction fuel with
  | zero =>
    intro listed a w I
    have hr : Region.ready .any ops listed = [] := by
      cases hc : Region.ready .any ops listed with
      | nil => rfl
      | cons i l =>
        have hm : i ∈ Region.ready .any ops listed := by rw [hc]; simp
        obtain ⟨_, hf⟩ := Ssa.getD_true (mem_ready.1 hm).1
        have h0 := I.left
        rw [List.count_eq_zero] at h0
        exact absurd (List.mem_of_getElem? (by simpa using hf)) h0
    exact ⟨hr, fin _ _ _ _ I hr⟩
  | succ fuel ih =>
    intro listed a w I
    refine ⟨fin _ _ _ _ I, fun i hi => ?_⟩
    obtain ⟨hun, o, ho, hall⟩ := mem_ready.1 hi
    obtain ⟨hlt, hf⟩ := Ssa.getD_true hun
    have hi' := hin i o ho
    simp only [Ssb.inB, Bool.and_eq_true] at hi'
    have hops : ∀ t, Operand.tmp t ∈ o.op.operands → Ok t (a.eval (.tmp t)) w := by
      intro t ht
      have h4 := Array.all_eq_true_iff_forall_mem.1 hi'.2 _ ht
      refine I.holds t (by simpa using h4) fun j o' ho' hd => ?_
      obtain ⟨e, he, hb, rfl⟩ := F.data i o ho t ht j o' ho' hd
      exact hall e he hb
    have hlook : ∀ j b t x, o.guard = some (j, b) → gTmp ops j = some t → t < n → told.lookup t = some x → a.tmps[t]? = some (valOf x) := by
      intro j b t x h0 hd htn hx
      rcases F.guard i o ho with h1 | ⟨j', b', t', h1, hd', hwr⟩
      · rw [h0] at h1; cases h1
      · rw [h0] at h1
        obtain ⟨rfl, rfl⟩ : j = j' ∧ b = b' := by simpa using h1
        have : t = t' := by
          have : gTmp ops j = some t' := hd'
          rw [hd] at this
          exact Option.some.inj this
        subst this
        have h2 := (htold t x hx _ _).1 (I.holds t htn fun k o' ho' hd'' => by
          obtain ⟨e, he, hb, rfl⟩ := hwr k o' ho' hd''
          exact hall e he hb)
        have hs : t < a.tmps.size := by rw [I.slots]; exact htn
        simp [Act.eval, hs] at h2
        simp [hs, h2]
    have next : ∀ (u : Value) (w' : World), C w' → Ext w w' → (∀ d, o.dst = some d → Ok d u w') → Ssb.Inv ops C Ok n ds fuel (listed.setIfInBounds i true) (a.put o.dst u) w' := by
      intro u w' hC hE hd
      have hput : (a.put o.dst u).tmps.size = a.tmps.size ∧ (a.put o.dst u).defers = a.defers := by
        cases hdst : o.dst <;> simp [Act.put]
      refine ⟨by simpa using I.size, ?_, hC, hput.2.trans I.defers, hput.1.trans I.slots, ?_⟩
      · have := Ssa.count_set (l := listed.toList) (i := i) (by simpa using hf)
        have h0 := I.left
        simp only [Array.toList_setIfInBounds]
        omega
      · intro t htn ht
        have hold : o.dst ≠ some t → Ok t (a.eval (.tmp t)) w' := fun hne => hst _ _ _ _ (I.holds t htn fun j o' ho' hd' => by
          rcases Ssa.getD_set.1 (ht j o' ho' hd') with h' | ⟨rfl, _⟩
          · exact h'
          · rw [ho] at ho'
            obtain rfl := Option.some.inj ho'
            exact absurd hd' hne) hE
        cases hdst : o.dst with
        | none => simp only [Act.put]; exact hold (by rw [hdst]; simp)
        | some d =>
          by_cases hdt : d = t
          · subst hdt
            have hds : d < a.tmps.size := by rw [I.slots]; exact htn
            have hv := hd d hdst
            simpa [Act.eval, Act.put, hds] using hv
          · have hv := hold (by rw [hdst]; simpa using hdt)
            rw [Act.eval_put (by intro d' hd' e; cases hd'; cases e; exact hdt rfl)]
            exact hv
    unfold wpOp
    rcases hgood i o ho with hs | ⟨hm, hg⟩
    · have hw : Region.wanted o (yielded ops a.tmps) = false := by
        unfold skipB at hs
        cases h0 : o.guard with
        | none => simp [h0] at hs
        | some jb =>
          obtain ⟨j, b⟩ := jb
          rw [h0] at hs
          simp only at hs
          cases hd : gTmp ops j with
          | none => simp [hd] at hs
          | some t =>
            simp only [hd, Bool.and_eq_true, decide_eq_true_eq] at hs
            obtain ⟨⟨htn, hx⟩, _⟩ := hs
            cases hl : told.lookup t with
            | none => simp [hl] at hx
            | some x =>
              simp only [hl, Bool.not_eq_true'] at hx
              have h3 := hlook j b t x h0 hd htn hl
              have hd2 : (ops[j]?).bind (·.dst) = some t := hd
              have hne := valOf_ne hx
              cases x with
              | none =>
                simp [valOf] at h3
                simp [Region.wanted, h0, yielded, hd2, h3, undef]
              | some c =>
                simp [valOf] at h3 hne
                simp [Region.wanted, h0, yielded, hd2, h3, hne]
      simp only [ho, hw]
      refine ih _ _ _ (next undef w I.world (hr w) fun d hd => ?_)
      unfold skipB at hs
      cases h0 : o.guard with
      | none => simp [h0] at hs
      | some jb =>
        obtain ⟨j, b⟩ := jb
        rw [h0] at hs
        simp only at hs
        cases hd' : gTmp ops j with
        | none => simp [hd'] at hs
        | some t =>
          simp only [hd', Bool.and_eq_true, decide_eq_true_eq, hd] at hs
          have hu := hs.2
          simp only [beq_iff_eq] at hu
          exact (htold d none hu undef w).2 rfl
    · have hw : Region.wanted o (yielded ops a.tmps) = true := by
        unfold metB at hm
        cases h0 : o.guard with
        | none => simp [Region.wanted, h0]
        | some jb =>
          obtain ⟨j, b⟩ := jb
          rw [h0] at hm
          simp only at hm
          cases hd : gTmp ops j with
          | none => simp [hd] at hm
          | some t =>
            simp only [hd, Bool.and_eq_true, decide_eq_true_eq] at hm
            obtain ⟨htn, hx⟩ := hm
            cases hl : told.lookup t with
            | none => simp [hl] at hx
            | some x =>
              simp only [hl, beq_iff_eq] at hx
              subst hx
              have h3 := hlook j b t _ h0 hd htn hl
              have hd2 : (ops[j]?).bind (·.dst) = some t := hd
              simp [valOf] at h3
              simp [Region.wanted, h0, yielded, hd2, h3]
      have hg := hg a w I.world hops
      simp only [ho, hw, if_true]
      refine .inl ?_
      unfold Oper.wp
      generalize (execOp a.eval o).run P w = r at hg
      cases r with
      | ok m w' =>
        cases m with
        | value u => exact ih _ _ _ (next u w' hg.1 hg.2.1 hg.2.2)
        | skip =>
          refine ih _ _ _ (next undef w' hg.1 hg.2.1 fun d hd => ?_)
          rw [hg.2.2] at hd; cases hd
        | enter f args =>
          refine Calls.mono hg fun e w'' he => ?_
          obtain ⟨u, rfl, hC, hE, hd⟩ := he
          exact ih _ _ _ (next u w'' hC hE hd)
        | _ => exact hg.elim
      | halt x w' => exact hg.elim

theorem lookup_of : ∀ {l : List (Tmp × Option Bool)} {t : Tmp} {x : Option Bool}, l.lookup t = some x → (t, x) ∈ l
  | [], _, _, h => by simp at h
  | (k, r) :: l, t, q, h => by
    rw [List.lookup_cons] at h
    split at h
    · rename_i e
      have : t = k := by simpa using e
      subst this
      simp at h
      simp [h]
    · exact List.mem_cons_of_mem _ (lookup_of h)

/-- The region: dsts: all temporaries that it writes; wri: a predicate for each of which something is to be known; told: what the guards look at. -/
theorem region {id : Nat} {l : List Oper} {a : Act} {w : World} (C : World → Prop) (dsts : List Nat) (wri : List (Nat × Ssx.XP Ext)) (told : List (Tmp × Option Bool)) (hm : P.follows .mixedOrders = true) (hB : Ssa.okG l.toArray [] [] = true)
    (hin : (l.all (Ssb.inB a.tmps.size)) = true) (htold : ∀ p ∈ told, ∀ v w, Ssx.ok a dsts wri p.1 v w ↔ v = valOf p.2)
    (hds : (l.all fun o => match o.dst with | some d => dsts.contains d | none => true) = true) (hd2 : (dsts.all fun d => decide (d < a.tmps.size) && l.any fun o => o.dst == some d) = true) (hwr : (wri.all fun p => dsts.contains p.1) = true)
    (hr : ∀ w, Ext w w) (hC : C (w.drewN 1))
    (hgood : AllGood P C Ext (Ssx.ok a dsts wri) l.toArray a.tmps.size told l)
    (hQ : ∀ (vals : Nat → Value) (w' : World), C w' → (∀ p ∈ wri, Ssx.ok a dsts wri p.1 (vals p.1) w') → Q .normal (Ssa.putAll a (dsts.map fun d => (d, vals d))) w') : (Code.region id l.toArray true).wp P Q a w := by
  have hst : ∀ t v w w', Ssx.ok a dsts wri t v w → Ext w w' → Ssx.ok a dsts wri t v w' := by
    intro t v w w' h e
    unfold Ssx.ok at *
    cases hq : wri.lookup t with
    | some q => rw [hq] at h; exact q.st v w w' h e
    | none => rw [hq] at h; exact h
  have hnot : ∀ t, t ∉ dsts → wri.lookup t = none := by
    intro t ht
    cases hq : wri.lookup t with
    | none => rfl
    | some q =>
      have := List.all_eq_true.1 hwr _ (Ssx.lookup_mem hq)
      exact absurd (by simpa using this) ht
  have F := Ssa.fits_ofG hB
  refine wp_region_any hm (walk (Ext := Ext) (Ok := Ssx.ok a dsts wri) (n := a.tmps.size) (ds := a.defers) F (fun i o ho => List.all_eq_true.1 hin o (List.mem_of_getElem? (by simpa using ho))) (fun i o ho => allGood_at l hgood i o (by simpa using ho)) hr hst (fun t x hx => htold _ (lookup_of hx)) ?_ _ _ _ _ ⟨by simp, by simp, hC, rfl, rfl, ?_⟩)
  · intro a' w' hC' hdef hsz hok
    have hall : ∀ d ∈ dsts, d < a.tmps.size := by
      intro d hd
      have h1 := List.all_eq_true.1 hd2 _ hd
      simp only [Bool.and_eq_true, decide_eq_true_eq] at h1
      exact h1.1
    have e : a' = Ssa.putAll a (dsts.map fun d => (d, a'.eval (.tmp d))) := by
      cases a' with
      | mk tmps' defers' =>
        unfold Ssa.putAll
        simp only [Act.mk.injEq]
        refine ⟨?_, hdef⟩
        apply Array.ext_getElem?
        intro t
        by_cases ht : t < a.tmps.size
        · have hsz' : tmps'.size = a.tmps.size := hsz
          have ht' : t < tmps'.size := by rw [hsz']; exact ht
          by_cases hd : t ∈ dsts
          · rw [Ssx.puts _ (fun d => ({ tmps := tmps', defers := defers' } : Act).eval (.tmp d)) dsts t hall hd]
            simp [Act.eval, ht']
          · rw [Ssa.putAll_other _ _ _ (by
              intro p hp e
              obtain ⟨e', he, rfl⟩ := List.mem_map.1 hp
              exact hd (e ▸ he))]
            have h1 := hok t ht
            unfold Ssx.ok at h1
            rw [hnot t hd, show dsts.contains t = false by simpa using hd] at h1
            simp [Act.eval, ht, ht'] at h1
            simp [ht, ht', h1]
        · have hsz' : tmps'.size = a.tmps.size := hsz
          rw [Array.getElem?_eq_none (by omega), Array.getElem?_eq_none (by rw [Ssa.putAll_size]; omega)]
    rw [e]
    refine hQ (fun d => a'.eval (.tmp d)) w' hC' fun p hp => ?_
    have hp1 := List.all_eq_true.1 hwr _ hp
    exact hok p.1 (hall _ (by simpa using hp1))
  · intro t ht hw
    have hun : ∀ (i : Nat) (o : Oper), l.toArray[i]? = some o → o.dst ≠ some t := by
      intro i o ho hd
      have := hw i o ho hd
      simp [Array.getElem?_replicate] at this
      split at this <;> simp_all
    have htd : t ∉ dsts := by
      intro h
      have h1 := List.all_eq_true.1 hd2 _ h
      simp only [Bool.and_eq_true] at h1
      obtain ⟨o, ho, he⟩ := List.any_eq_true.1 h1.2
      obtain ⟨i, hi, rfl⟩ := List.mem_iff_getElem.1 ho
      exact hun i l[i] (by simp [hi]) (by simpa using he)
    unfold Ssx.ok
    rw [hnot t htd, show dsts.contains t = false by simpa using htd]

variable {o : Oper} {d : Tmp}
/-- 'a && b' behind a false a; 'a || b' behind a true a. -/
theorem and_no (hr : ∀ w, Ext w w) {c : Tmp} {x : Operand} {v : Value} (ho : o.op = .pick (.tmp c) x (.const v)) (hd : o.dst = some d) (hc : ∀ v w, Ok c v w → v = .bool false) (h : ∀ w, Ok d v w) : Ssb.Good P C Ext Ok o :=
  Ssx.val hr hd fun a w hC hop => ⟨_, Ssx.run_pick_no ho (hc _ _ (hop c (by rw [ho]; simp [Op.operands]))) rfl w, h _⟩
theorem or_yes (hr : ∀ w, Ext w w) {c : Tmp} {y : Operand} {v : Value} (ho : o.op = .pick (.tmp c) (.const v) y) (hd : o.dst = some d) (hc : ∀ v w, Ok c v w → v = .bool true) (h : ∀ w, Ok d v w) : Ssb.Good P C Ext Ok o :=
  Ssx.val hr hd fun a w hC hop => ⟨_, Ssa.run_pick ho (hc _ _ (hop c (by rw [ho]; simp [Op.operands]))) rfl w, h _⟩
/-- A constant. -/
theorem mvc (hr : ∀ w, Ext w w) {v : Value} (ho : o.op = .move (.const v)) (hd : o.dst = some d) (h : ∀ w, Ok d v w) : Ssb.Good P C Ext Ok o :=
  Ssx.val hr hd fun a w hC hop => ⟨_, Ssa.run_mv ho rfl w, h w⟩
theorem asgc (hr : ∀ w, Ext w w) {v : Value} (ho : o.op = .assign (.const v)) (hd : o.dst = some d) (h : ∀ w, Ok d v w) : Ssb.Good P C Ext Ok o :=
  Ssx.val hr hd fun a w hC hop => ⟨_, Ssa.run_asg ho rfl w, h w⟩
/-- One cell. -/
theorem cell (hr : ∀ w, Ext w w) {x : Tmp} {ty : TypeId} {td : TypeDesc} (ho : o.op = .load ty (.tmp x)) (hd : o.dst = some d) (ad : Addr) (v : Value) (hx : ∀ u w, Ok x u w → u = .pointer (some ad)) (hc : ∀ w, C w → w.cell? ad = some v) (hu : P.underlying ty = some td)
    (hn : (match td with | .struct _ | .array _ _ => true | _ => false) = false) (h : ∀ w, Ok d v w) : Ssb.Good P C Ext Ok o :=
  Ssx.val hr hd fun a w hC hop => ⟨_, Ssa.run_load ty _ td ho ad v (hx _ _ (hop x (by rw [ho]; simp [Op.operands]))) hu hn w (hc w hC), h w⟩
/-- Whole arrays compared: any outcome. -/
theorem eqv (hr : ∀ w, Ext w w) {x y : Tmp} {ty u : TypeId} (ho : o.op = .binOp .eql ty (.tmp x) (.tmp y) u) (hd : o.dst = some d) (hg : P.eqGuardType P.depth ty = false) (X Y : Array Value) (b : Bool) (hx : ∀ v w, Ok x v w → v = .agg X) (hy : ∀ v w, Ok y v w → v = .agg Y)
    (he : ∀ w, (Op.equalIn 10000 ty (.agg X) (.agg Y)).run P w = .ok b w) (h : ∀ w, Ok d (.bool b) w) : Ssb.Good P C Ext Ok o :=
  Ssx.val hr hd fun a w hC hop => ⟨.bool b, by
    have h1 := hx _ _ (hop x (by rw [ho]; simp [Op.operands]))
    have h2 := hy _ _ (hop y (by rw [ho]; simp [Op.operands]))
    unfold execOp
    simp only [ho, h1, h2, Sem.run_bind, run_eqGuard_agg w .eql ty _ _ X Y hg, Result.andThen_ok, run_eql_struct w ty X Y, he w, Sem.run_pure], h w⟩
end
end Ssy
end Go.Proofs.Ytnmigdcedcmbkaa
