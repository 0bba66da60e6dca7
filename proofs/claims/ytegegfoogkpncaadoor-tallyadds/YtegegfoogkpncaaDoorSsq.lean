/-
  A region that draws its order: as module Ssy, but what an operation leaves as it was is told for the operations ahead of a place and for those behind it apart: what is written behind the place need only outlast the operations behind it (each of them waits for all those ahead).
-/
import Derived.Test.YtegegfoogkpncaaDoorSsz
namespace Go.Proofs.YtegegfoogkpncaaDoor
open Go Go.RowKit
set_option linter.unusedVariables false
namespace Ssq

section
variable {P : Program} {Q : Exit → Act → World → Prop} {C : World → Prop} {E : Nat → World → World → Prop} {Ok : Tmp → Value → World → Prop} {n : Nat} {ops : Array Oper} {told : List (Tmp × Option Bool)}

structure Inv (ops : Array Oper) (C : World → Prop) (Ok : Tmp → Value → World → Prop) (n : Nat) (ds : List Deferred) (fuel : Nat) (listed : Array Bool) (a : Act) (w : World) : Prop where
  size : listed.size = ops.size
  left : listed.toList.count false = fuel
  world : C w
  defers : a.defers = ds
  slots : a.tmps.size = n
  holds : ∀ t, t < n → (∀ (i : Nat) (o : Oper), ops[i]? = some o → o.dst = some t → listed.getD i false = true) → Ok t (a.eval (.tmp t)) w
  closed : Ssz.Closed ops listed

theorem walk {ds : List Deferred} (F : Ssa.Fits ops [] []) (hin : ∀ (i : Nat) (o : Oper), ops[i]? = some o → Ssb.inB n o = true)
    (hgood : ∀ (i : Nat) (o : Oper), ops[i]? = some o → Ssy.skipB ops n told o = true ∨ Ssy.metB ops n told o = true ∧ Ssb.Good P C (E i) Ok o)
    (hr : ∀ i w, C w → E i w w) (hst : ∀ (i : Nat) t v w w', C w → (∀ (j : Nat) (o' : Oper), ops[j]? = some o' → o'.dst = some t → j ≠ i → Ssz.reach ops ops.size j i = false) → Ok t v w → E i w w' → Ok t v w') (htold : ∀ t x, told.lookup t = some x → ∀ v w, Ok t v w ↔ v = Ssy.valOf x)
    (hQ : ∀ a w, C w → a.defers = ds → a.tmps.size = n → (∀ t, t < n → Ok t (a.eval (.tmp t)) w) → Q .normal a w) :
    ∀ (fuel : Nat) (listed : Array Bool) (a : Act) (w : World), Inv ops C Ok n ds fuel listed a w → wpAny P .any ops Q fuel listed a w := by
  have fin : ∀ (fuel : Nat) (listed : Array Bool) (a : Act) (w : World), Inv ops C Ok n ds fuel listed a w → Region.ready .any ops listed = [] → Q .normal a w := by
    intro fuel listed a w I hrd
    have hall := Ssa.all_listed F I.size hrd
    exact hQ a w I.world I.defers I.slots fun t ht => I.holds t ht fun i o ho _ => hall i o ho
  intro fuel
  induction fuel with
  | zero =>
    intro listed a w I
    have h0 := I.left
    rw [List.count_eq_zero] at h0
    have hrd : Region.ready .any ops listed = [] := by
      cases hq : Region.ready .any ops listed with
      | nil => rfl
      | cons i r =>
        exfalso
        have hi : i ∈ Region.ready .any ops listed := by rw [hq]; simp
        obtain ⟨hun, o, ho, hall⟩ := mem_ready.1 hi
        obtain ⟨hlt, hf⟩ := Ssa.getD_true hun
        exact h0 (List.mem_of_getElem? (by simpa using hf))
    exact ⟨hrd, fin _ _ _ _ I hrd⟩
  | succ fuel ih =>
    intro listed a w I
    refine ⟨fun hrd => fin _ _ _ _ I hrd, fun i hi => ?_⟩
    obtain ⟨hun, o, ho, hall⟩ := mem_ready.1 hi
    obtain ⟨hlt, hf⟩ := Ssa.getD_true hun
    have hi' := hin i o ho
    simp only [Ssb.inB, Bool.and_eq_true] at hi'
    have hops : ∀ t, Operand.tmp t ∈ o.op.operands → Ok t (a.eval (.tmp t)) w := by
      intro t ht
      have h4 := Array.all_eq_true_iff_forall_mem.1 hi'.2 _ ht
      refine I.holds t (by simpa using h4) fun j o' ho' hd => ?_
      obtain ⟨e, he, hb, rfl⟩ := F.data i o ho t ht j o' ho' hd
      exact hall e he hb
    have hlook : ∀ j b t x, o.guard = some (j, b) → Ssy.gTmp ops j = some t → t < n → told.lookup t = some x → a.tmps[t]? = some (Ssy.valOf x) := by
      intro j b t x h0 hd htn hx
      rcases F.guard i o ho with h1 | ⟨j', b', t', h1, hd', hwr⟩
      · rw [h0] at h1; cases h1
      · rw [h0] at h1
        obtain ⟨rfl, rfl⟩ : j = j' ∧ b = b' := by simpa using h1
        have : t = t' := by
          have : Ssy.gTmp ops j = some t' := hd'
          rw [hd] at this
          exact Option.some.inj this
        subst this
        have h2 := (htold t x hx _ _).1 (I.holds t htn fun k o' ho' hd'' => by
          obtain ⟨e, he, hb, rfl⟩ := hwr k o' ho' hd''
          exact hall e he hb)
        have hs : t < a.tmps.size := by rw [I.slots]; exact htn
        simp [Act.eval, hs] at h2
        simp [hs, h2]
    have next : ∀ (u : Value) (w' : World), C w' → E i w w' → (∀ d, o.dst = some d → Ok d u w') → Inv ops C Ok n ds fuel (listed.setIfInBounds i true) (a.put o.dst u) w' := by
      intro u w' hC hE hd
      have hput : (a.put o.dst u).tmps.size = a.tmps.size ∧ (a.put o.dst u).defers = a.defers := by
        cases hdst : o.dst <;> simp [Act.put]
      refine ⟨by simpa using I.size, ?_, hC, hput.2.trans I.defers, hput.1.trans I.slots, ?_, ?_⟩
      · have := Ssa.count_set (l := listed.toList) (i := i) (by simpa using hf)
        have h0 := I.left
        simp only [Array.toList_setIfInBounds]
        omega
      · intro t htn ht
        have hold : o.dst ≠ some t → Ok t (a.eval (.tmp t)) w' := fun hne => hst i _ _ _ _ I.world (fun j o' ho' hd' hji => by
          have hj : listed.getD j false = true := by
            rcases Ssa.getD_set.1 (ht j o' ho' hd') with h' | ⟨h', _⟩
            · exact h'
            · exact absurd h'.symm hji
          cases hre : Ssz.reach ops ops.size j i with
          | false => rfl
          | true =>
            have := Ssz.reach_listed I.closed ops.size j i o' ho' (fun e he hb => I.closed j o' ho' hj e he hb) hre
            simp [hf] at this) (I.holds t htn fun j o' ho' hd' => by
          rcases Ssa.getD_set.1 (ht j o' ho' hd') with h' | ⟨rfl, _⟩
          · exact h'
          · rw [ho] at ho'
            obtain rfl := Option.some.inj ho'
            exact absurd hd' hne) hE
        cases hdst : o.dst with
        | none => simp only [Act.put]; exact hold (by rw [hdst]; simp)
        | some d =>
          by_cases hdt : d = t
          · subst hdt
            have hds : d < a.tmps.size := by rw [I.slots]; exact htn
            have hv := hd d hdst
            simpa [Act.eval, Act.put, hds] using hv
          · have hv := hold (by rw [hdst]; simpa using hdt)
            rw [Act.eval_put (by intro d' hd' e; cases hd'; cases e; exact hdt rfl)]
            exact hv
      · intro k o' ho' hl e he hb
        rcases Ssa.getD_set.1 hl with h' | ⟨rfl, _⟩
        · exact Ssa.getD_set.2 (Or.inl (I.closed k o' ho' h' e he hb))
        · rw [ho] at ho'
          obtain rfl := Option.some.inj ho'
          exact Ssa.getD_set.2 (Or.inl (hall e he hb))
    unfold wpOp
    rcases hgood i o ho with hs | ⟨hm, hg⟩
    · have hw : Region.wanted o (yielded ops a.tmps) = false := by
        unfold Ssy.skipB at hs
        cases h0 : o.guard with
        | none => simp [h0] at hs
        | some jb =>
          obtain ⟨j, b⟩ := jb
          rw [h0] at hs
          simp only at hs
          cases hd : Ssy.gTmp ops j with
          | none => simp [hd] at hs
          | some t =>
            simp only [hd, Bool.and_eq_true, decide_eq_true_eq] at hs
            obtain ⟨⟨htn, hx⟩, _⟩ := hs
            cases hl : told.lookup t with
            | none => simp [hl] at hx
            | some x =>
              simp only [hl, Bool.not_eq_true'] at hx
              have h3 := hlook j b t x h0 hd htn hl
              have hd2 : (ops[j]?).bind (·.dst) = some t := hd
              have hne := Ssy.valOf_ne hx
              cases x with
              | none =>
                simp [Ssy.valOf] at h3
                simp [Region.wanted, h0, yielded, hd2, h3, undef]
              | some c =>
                simp [Ssy.valOf] at h3 hne
                simp [Region.wanted, h0, yielded, hd2, h3, hne]
      simp only [ho, hw]
      refine ih _ _ _ (next undef w I.world (hr i w I.world) (fun d hd => ?_))
      unfold Ssy.skipB at hs
      cases h0 : o.guard with
      | none => simp [h0] at hs
      | some jb =>
        obtain ⟨j, b⟩ := jb
        rw [h0] at hs
        simp only at hs
        cases hd' : Ssy.gTmp ops j with
        | none => simp [hd'] at hs
        | some t =>
          simp only [hd', Bool.and_eq_true, decide_eq_true_eq, hd] at hs
          have hu := hs.2
          simp only [beq_iff_eq] at hu
          exact (htold d none hu undef w).2 rfl
    · have hw : Region.wanted o (yielded ops a.tmps) = true := by
        unfold Ssy.metB at hm
        cases h0 : o.guard with
        | none => simp [Region.wanted, h0]
        | some jb =>
          obtain ⟨j, b⟩ := jb
          rw [h0] at hm
          simp only at hm
          cases hd : Ssy.gTmp ops j with
          | none => simp [hd] at hm
          | some t =>
            simp only [hd, Bool.and_eq_true, decide_eq_true_eq] at hm
            obtain ⟨htn, hx⟩ := hm
            cases hl : told.lookup t with
            | none => simp [hl] at hx
            | some x =>
              simp only [hl, beq_iff_eq] at hx
              subst hx
              have h3 := hlook j b t _ h0 hd htn hl
              have hd2 : (ops[j]?).bind (·.dst) = some t := hd
              simp [Ssy.valOf] at h3
              simp [Region.wanted, h0, yielded, hd2, h3]
      have hg := hg a w I.world hops
      simp only [ho, hw, if_true]
      refine .inl ?_
      unfold Oper.wp
      generalize (execOp a.eval o).run P w = r at hg
      cases r with
      | ok m w' =>
        cases m with
        | value u => exact ih _ _ _ (next u w' hg.1 hg.2.1 hg.2.2)
        | skip =>
          refine ih _ _ _ (next undef w' hg.1 hg.2.1 (fun d hd => ?_))
          rw [hg.2.2] at hd; cases hd
        | enter f args =>
          refine Calls.mono hg fun e w'' he => ?_
          obtain ⟨u, rfl, hC, hE, hd⟩ := he
          exact ih _ _ _ (next u w'' hC hE hd)
        | _ => exact hg.elim
      | halt x w' => exact hg.elim
/-- Every operation from m on waits for every one ahead of m. -/
def barB (ops : Array Oper) (m : Nat) : Bool := (List.range ops.size).all fun i => decide (i < m) || (List.range m).all fun j => Ssz.reach ops ops.size i j

variable {E1 E2 : World → World → Prop}
def ok (a : Act) (dsts : List Nat) (wri : List (Nat × Ssx.XP E1)) (wri2 : List (Nat × Ssx.XP E2)) (t : Tmp) (v : Value) (w : World) : Prop :=
  match wri.lookup t with
  | some q => q.p v w
  | none => match wri2.lookup t with
    | some q => q.p v w
    | none => if dsts.contains t then True else v = a.eval (.tmp t)

def AllGood (P : Program) (C : World → Prop) (E1 E2 : World → World → Prop) (Ok : Tmp → Value → World → Prop) (ops : Array Oper) (n : Nat) (told : List (Tmp × Option Bool)) : Nat → List Oper → Prop
  | _, [] => True
  | 0, o :: l => (Ssy.skipB ops n told o = true ∨ Ssy.metB ops n told o = true ∧ Ssb.Good P C E2 Ok o) ∧ AllGood P C E1 E2 Ok ops n told 0 l
  | m + 1, o :: l => (Ssy.skipB ops n told o = true ∨ Ssy.metB ops n told o = true ∧ Ssb.Good P C E1 Ok o) ∧ AllGood P C E1 E2 Ok ops n told m l
theorem allGood_at : ∀ (m : Nat) (l : List Oper), AllGood P C E1 E2 Ok ops n told m l → ∀ (i : Nat) (o : Oper), l[i]? = some o → Ssy.skipB ops n told o = true ∨ Ssy.metB ops n told o = true ∧ Ssb.Good P C (if i < m then E1 else E2) Ok o
  | _, [], _, _, _, h => by simp at h
  | 0, o :: l, h, 0, o', e => by simp at e; subst e; simpa using h.1
  | 0, o :: l, h, i + 1, o', e => by simpa using allGood_at 0 l h.2 i o' (by simpa using e)
  | m + 1, o :: l, h, 0, o', e => by simp at e; subst e; simpa using h.1
  | m + 1, o :: l, h, i + 1, o', e => by simpa using allGood_at m l h.2 i o' (by simpa using e)

theorem region {id : Nat} {l : List Oper} {a : Act} {w : World} (m : Nat) (C : World → Prop) (dsts : List Nat) (wri : List (Nat × Ssx.XP E1)) (wri2 : List (Nat × Ssx.XP E2)) (told : List (Tmp × Option Bool)) (hm : P.follows .mixedOrders = true) (hB : Ssa.okG l.toArray [] [] = true) (hbar : barB l.toArray m = true)
    (hin : (l.all (Ssb.inB a.tmps.size)) = true) (htold : ∀ p ∈ told, ∀ v w, ok a dsts wri wri2 p.1 v w ↔ v = Ssy.valOf p.2)
    (hds : (l.all fun o => match o.dst with | some d => dsts.contains d | none => true) = true)
    (hd2 : (dsts.all fun d => decide (d < a.tmps.size) && l.any fun o => o.dst == some d) = true) (hwr : (wri.all fun p => dsts.contains p.1) = true)
    (hwr2 : (wri2.all fun p => dsts.contains p.1 && ((List.range l.length).any fun j => decide (m ≤ j) && ((l[j]?).bind (·.dst)) == some p.1)) = true)
    (hr1 : ∀ w, E1 w w) (hr2 : ∀ w, E2 w w) (h21 : ∀ w w', C w → E2 w w' → E1 w w') (hC : C (w.drewN 1))
    (hgood : AllGood P C E1 E2 (ok a dsts wri wri2) l.toArray a.tmps.size told m l)
    (hQ : ∀ (vals : Nat → Value) (w' : World), C w' → (∀ p ∈ wri, ok a dsts wri wri2 p.1 (vals p.1) w') → (∀ p ∈ wri2, ok a dsts wri wri2 p.1 (vals p.1) w') → Q .normal (Ssa.putAll a (dsts.map fun d => (d, vals d))) w') : (Code.region id l.toArray true).wp P Q a w := by
  have F := Ssa.fits_ofG hB
  have hnot : ∀ t, t ∉ dsts → wri.lookup t = none ∧ wri2.lookup t = none := by
    intro t ht
    constructor
    · cases hq : wri.lookup t with
      | none => rfl
      | some q =>
        have := List.all_eq_true.1 hwr _ (Ssx.lookup_mem hq)
        exact absurd (by simpa using this) ht
    · cases hq : wri2.lookup t with
      | none => rfl
      | some q =>
        have := List.all_eq_true.1 hwr2 _ (Ssx.lookup_mem hq)
        simp only [Bool.and_eq_true] at this
        exact absurd (by simpa using this.1) ht
  have hst : ∀ (i : Nat) t v w w', C w → (∀ (j : Nat) (o' : Oper), l.toArray[j]? = some o' → o'.dst = some t → j ≠ i → Ssz.reach l.toArray l.toArray.size j i = false) → ok a dsts wri wri2 t v w → (if i < m then E1 else E2) w w' → ok a dsts wri wri2 t v w' := by
    intro i t v w w' hCw hside h e
    unfold ok at *
    cases hq : wri.lookup t with
    | some q =>
      rw [hq] at h
      split at e
      · exact q.st v w w' h e
      · exact q.st v w w' h (h21 w w' hCw e)
    | none =>
      rw [hq] at h
      cases hq2 : wri2.lookup t with
      | some q =>
        rw [hq2] at h
        simp only at h ⊢
        split at e
        · rename_i him
          exfalso
          have h1 := List.all_eq_true.1 hwr2 _ (Ssx.lookup_mem hq2)
          simp only [Bool.and_eq_true] at h1
          obtain ⟨j, hj, h2⟩ := List.any_eq_true.1 h1.2
          simp only [Bool.and_eq_true, decide_eq_true_eq, beq_iff_eq] at h2
          cases ho : l[j]? with
          | none => rw [ho] at h2; simp at h2
          | some o' =>
            rw [ho] at h2
            have hd : o'.dst = some t := by simpa using h2.2
            have h3 := hside j o' (by simpa using ho) hd (by omega)
            have hjl : j < l.length := List.mem_range.1 hj
            have h4 := List.all_eq_true.1 hbar j (List.mem_range.2 (by simpa using hjl))
            simp only [Bool.or_eq_true, decide_eq_true_eq] at h4
            rcases h4 with h4 | h4
            · omega
            · have h5 := List.all_eq_true.1 h4 i (List.mem_range.2 him)
              rw [h3] at h5
              cases h5
        · exact q.st v w w' h e
      | none => rw [hq2] at h; exact h
  refine wp_region_any hm (walk (E := fun i => if i < m then E1 else E2) (Ok := ok a dsts wri wri2) (n := a.tmps.size) (ds := a.defers) (told := told) F (fun i o ho => List.all_eq_true.1 hin o (List.mem_of_getElem? (by simpa using ho)))
    (fun i o ho => allGood_at m l hgood i o (by simpa using ho)) (fun i w hCw => by split; (· exact hr1 w); exact hr2 w) hst (fun t x hx => htold _ (Ssy.lookup_of hx)) ?_ _ _ _ _ ⟨by simp, by simp, hC, rfl, rfl, ?_, ?_⟩)
  · intro a' w' hC' hdef hsz hok
    have hall : ∀ d ∈ dsts, d < a.tmps.size := by
      intro d hd
      have h1 := List.all_eq_true.1 hd2 _ hd
      simp only [Bool.and_eq_true, decide_eq_true_eq] at h1
      exact h1.1
    have e : a' = Ssa.putAll a (dsts.map fun d => (d, a'.eval (.tmp d))) := by
      cases a' with
      | mk tmps' defers' =>
        unfold Ssa.putAll
        simp only [Act.mk.injEq]
        refine ⟨?_, hdef⟩
        apply Array.ext_getElem?
        intro t
        by_cases ht : t < a.tmps.size
        · have hsz' : tmps'.size = a.tmps.size := hsz
          have ht' : t < tmps'.size := by rw [hsz']; exact ht
          by_cases hd : t ∈ dsts
          · rw [Ssx.puts _ (fun d => ({ tmps := tmps', defers := defers' } : Act).eval (.tmp d)) dsts t hall hd]
            simp [Act.eval, ht']
          · rw [Ssa.putAll_other _ _ _ (by
              intro p hp e
              obtain ⟨e', he, rfl⟩ := List.mem_map.1 hp
              exact hd (e ▸ he))]
            have h1 := hok t ht
            unfold ok at h1
            rw [(hnot t hd).1] at h1
            simp only at h1
            rw [(hnot t hd).2] at h1
            rw [show dsts.contains t = false by simpa using hd] at h1
            simp [Act.eval, ht, ht'] at h1
            simp [ht, ht', h1]
        · have hsz' : tmps'.size = a.tmps.size := hsz
          rw [Array.getElem?_eq_none (by omega), Array.getElem?_eq_none (by rw [Ssa.putAll_size]; omega)]
    rw [e]
    refine hQ (fun d => a'.eval (.tmp d)) w' hC' (fun p hp => ?_) (fun p hp => ?_)
    · have hp1 := List.all_eq_true.1 hwr _ hp
      exact hok p.1 (hall _ (by simpa using hp1))
    · have hp1 := List.all_eq_true.1 hwr2 _ hp
      simp only [Bool.and_eq_true] at hp1
      exact hok p.1 (hall _ (by simpa using hp1.1))
  · intro t ht hw
    have hun : ∀ (i : Nat) (o : Oper), l.toArray[i]? = some o → o.dst ≠ some t := by
      intro i o ho hd
      have := hw i o ho hd
      simp [Array.getElem?_replicate] at this
      split at this <;> simp_all
    have htd : t ∉ dsts := by
      intro h
      have h1 := List.all_eq_true.1 hd2 _ h
      simp only [Bool.and_eq_true] at h1
      obtain ⟨o, ho, he⟩ := List.any_eq_true.1 h1.2
      obtain ⟨i, hi, rfl⟩ := List.mem_iff_getElem.1 ho
      exact hun i l[i] (by simp [hi]) (by simpa using he)
    unfold ok
    rw [(hnot t htd).1]
    simp only
    rw [(hnot t htd).2]
    rw [show dsts.contains t = false by simpa using htd]
    simp
  · intro k o ho hl
    simp [Array.getElem?_replicate] at hl
    split at hl <;> simp_all
end
end Ssq
end Go.Proofs.YtegegfoogkpncaaDoor
