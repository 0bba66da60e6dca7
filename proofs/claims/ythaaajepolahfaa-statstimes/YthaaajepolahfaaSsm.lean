/-
  A region that draws its order, one of whose operations (a store) is not waited for by all others: as module Ssz, but what is known of frame and world hangs on whether that one has come up.
-/
import Derived.Test.YthaaajepolahfaaSsz
namespace Go.Proofs.Ythaaajepolahfaa
open Go Go.RowKit
set_option linter.unusedVariables false
namespace Ssm

section
variable {P : Program} {Q : Exit → Act → World → Prop} {C : World → Prop} {D : Bool → Act → World → Prop} {Ext : World → World → Prop} {Ok : Tmp → Value → World → Prop} {n q : Nat} {ops : Array Oper} {told : List (Tmp × Option Bool)}

/-- The operation, run in a world of the class over operands that meet their predicates, yields what meets its own; and D outlasts it. -/
def GoodD (P : Program) (C : World → Prop) (D : Bool → Act → World → Prop) (b b2 : Bool) (Ext : World → World → Prop) (Ok : Tmp → Value → World → Prop) (o : Oper) : Prop :=
  ∀ (a : Act) (w : World), C w → D b a w → (∀ t, Operand.tmp t ∈ o.op.operands → Ok t (a.eval (.tmp t)) w) →
    match (execOp a.eval o).run P w with
    | .ok (.value u) w' => C w' ∧ Ext w w' ∧ (∀ d, o.dst = some d → Ok d u w') ∧ D b2 (a.put o.dst u) w'
    | .ok .skip w' => C w' ∧ Ext w w' ∧ o.dst = none ∧ D b2 (a.put o.dst undef) w'
    | .ok (.enter f args) w' => Calls P f args w' (fun e w'' => ∃ u, e = .returned u ∧ C w'' ∧ Ext w w'' ∧ (∀ d, o.dst = some d → Ok d u w'') ∧ D b2 (a.put o.dst u) w'')
    | _ => False
/-- From a narrower way the world may go. -/
theorem good_lift {E : World → World → Prop} {b b2 : Bool} {o : Oper} (h : Ssb.Good P C E Ok o) (hE : ∀ w w', C w → E w w' → Ext w w') (hD : ∀ a w w' u, C w → D b a w → E w w' → D b2 (a.put o.dst u) w') : GoodD P C D b b2 Ext Ok o := by
  intro a w hC hd hop
  have hg := h a w hC hop
  cases hr : (execOp a.eval o).run P w with
  | ok m w' =>
    rw [hr] at hg
    cases m with
    | value u => exact ⟨hg.1, hE _ _ hC hg.2.1, hg.2.2, hD _ _ _ _ hC hd hg.2.1⟩
    | skip => exact ⟨hg.1, hE _ _ hC hg.2.1, hg.2.2, hD _ _ _ _ hC hd hg.2.1⟩
    | enter f args =>
      refine Calls.mono hg fun e w'' he => ?_
      obtain ⟨u, h1, h2, h3, h4⟩ := he
      exact ⟨u, h1, h2, hE _ _ hC h3, h4, hD _ _ _ _ hC hd h3⟩
    | _ => exact hg.elim
  | halt x w' => rw [hr] at hg; exact hg.elim
/-- What is asked of operation number i: before operation q (the one that is marked) it need not outlast the mark. -/
def Asked (P : Program) (C : World → Prop) (D : Bool → Act → World → Prop) (Ext : World → World → Prop) (Ok : Tmp → Value → World → Prop) (ops : Array Oper) (n : Nat) (told : List (Tmp × Option Bool)) (q i : Nat) (o : Oper) : Prop :=
  if i = q then Ssy.metB ops n told o = true ∧ GoodD P C D false true Ext Ok o
  else if Ssz.reach ops ops.size q i then Ssy.skipB ops n told o = true ∧ (∀ a w, D false a w → D false (a.put o.dst undef) w) ∨ Ssy.metB ops n told o = true ∧ GoodD P C D false false Ext Ok o
  else ∀ b, Ssy.skipB ops n told o = true ∧ (∀ a w, D b a w → D b (a.put o.dst undef) w) ∨ Ssy.metB ops n told o = true ∧ GoodD P C D b b Ext Ok o
def AllGood (P : Program) (C : World → Prop) (D : Bool → Act → World → Prop) (Ext : World → World → Prop) (Ok : Tmp → Value → World → Prop) (ops : Array Oper) (n : Nat) (told : List (Tmp × Option Bool)) (q : Nat) : Nat → List Oper → Prop
  | _, [] => True
  | i, o :: l => Asked P C D Ext Ok ops n told q i o ∧ AllGood P C D Ext Ok ops n told q (i + 1) l
theorem allGood_at : ∀ (l : List Oper) (k : Nat), AllGood P C D Ext Ok ops n told q k l → ∀ (i : Nat) (o : Oper), l[i]? = some o → Asked P C D Ext Ok ops n told q (k + i) o
  | [], _, _, _, _, h => by simp at h
  | o :: l, k, h, 0, o', e => by simp at e; subst e; exact h.1
  | o :: l, k, h, i + 1, o', e => by
    have := allGood_at l (k + 1) h.2 i o' (by simpa using e)
    rwa [show k + (i + 1) = k + 1 + i by omega]

theorem ask_free {i : Nat} {o : Oper} (hne : i ≠ q) (h : ∀ b, Ssy.metB ops n told o = true ∧ GoodD P C D b b Ext Ok o) : Asked P C D Ext Ok ops n told q i o := by
  unfold Asked
  rw [if_neg hne]
  split
  · exact .inr (h false)
  · exact fun b => .inr (h b)
theorem ask_early {i : Nat} {o : Oper} (hne : i ≠ q) (hre : Ssz.reach ops ops.size q i = true) (hm : Ssy.metB ops n told o = true) (h : GoodD P C D false false Ext Ok o) : Asked P C D Ext Ok ops n told q i o := by
  unfold Asked
  rw [if_neg hne, if_pos hre]
  exact .inr ⟨hm, h⟩
theorem ask_mark {i : Nat} {o : Oper} (he : i = q) (hm : Ssy.metB ops n told o = true) (h : GoodD P C D false true Ext Ok o) : Asked P C D Ext Ok ops n told q i o := by
  unfold Asked
  rw [if_pos he]
  exact ⟨hm, h⟩

structure Inv (ops : Array Oper) (m0 q : Nat) (C : World → Prop) (D : Bool → Act → World → Prop) (Ok : Tmp → Value → World → Prop) (n : Nat) (ds : List Deferred) (fuel : Nat) (listed : Array Bool) (a : Act) (w : World) : Prop where
  size : listed.size = ops.size
  left : listed.toList.count false = fuel
  world : C w
  apart : D (listed.getD q false) a w
  defers : a.defers = ds
  slots : a.tmps.size = n
  holds : ∀ t, t < n → (∀ (i : Nat) (o : Oper), i < m0 → ops[i]? = some o → o.dst = some t → listed.getD i false = true) → Ok t (a.eval (.tmp t)) w
  rest : ∀ j, m0 ≤ j → listed.getD j false = false
  closed : Ssz.Closed ops listed

theorem walk {ds : List Deferred} {m0 : Nat} (hm0 : m0 ≤ ops.size) (hq : q < m0) (F : Ssa.Fits ops [] []) (htail : Ssz.tailB ops m0 = true) (hin : ∀ (i : Nat) (o : Oper), ops[i]? = some o → Ssb.inB n o = true)
    (hgood : ∀ (i : Nat) (o : Oper), i < m0 → ops[i]? = some o → Asked P C D Ext Ok ops n told q i o)
    (hr : ∀ w, Ext w w) (hst : ∀ t v w w', Ok t v w → Ext w w' → Ok t v w') (htold : ∀ t x, told.lookup t = some x → ∀ v w, Ok t v w ↔ v = Ssy.valOf x)
    (hQ : ∀ a w, C w → D true a w → a.defers = ds → a.tmps.size = n → (∀ t, t < n → Ok t (a.eval (.tmp t)) w) → wpList P ops Q (ops.toList.drop m0) a w) :
    ∀ (fuel : Nat) (listed : Array Bool) (a : Act) (w : World), Inv ops m0 q C D Ok n ds fuel listed a w → wpAny P .any ops Q fuel listed a w := by
  have fin : ∀ (fuel : Nat) (listed : Array Bool) (a : Act) (w : World), Inv ops m0 q C D Ok n ds fuel listed a w → (∀ j, j < m0 → listed.getD j false = true) → wpAny P .any ops Q fuel listed a w := by
    intro fuel listed a w I hall
    have hf : fuel = ops.size - m0 := by
      rw [← I.left, Ssz.count_all listed.toList m0 (by simpa [I.size] using hm0) (fun j hj => ?_) (fun j hj hl => ?_)]
      · simp [I.size]
      · have := hall j hj
        have hjl : j < listed.size := by rw [I.size]; omega
        simp [hjl] at this
        simp [hjl, this]
      · have := I.rest j hj
        have hjl : j < listed.size := by simpa using hl
        simp [hjl] at this
        simp [hjl, this]
    have hDt := I.apart
    rw [hall q hq] at hDt
    exact Ssz.tail F htail fuel m0 listed a w (Nat.le_refl _) (by omega) I.size hall I.rest (hQ a w I.world hDt I.defers I.slots fun t ht => I.holds t ht fun i o hi ho _ => hall i hi)
  intro fuel
  induction fuel with
  | zero =>
    intro listed a w I
    refine fin _ _ _ _ I fun j hj => ?_
    have h0 := I.left
    rw [List.count_eq_zero] at h0
    have hjl : j < listed.size := by rw [I.size]; omega
    cases hb : listed[j] with
    | true => simp [hjl, hb]
    | false =>
      exfalso
      apply h0
      have : listed.toList[j]? = some false := by simp [hjl, hb]
      exact List.mem_of_getElem? this
  | succ fuel ih =>
    intro listed a w I
    by_cases hal : ∀ j, j < m0 → listed.getD j false = true
    · exact fin _ _ _ _ I hal
    refine ⟨fun hrd => absurd (fun j hj => ?_) hal, fun i hi => ?_⟩
    · have hall := Ssa.all_listed F I.size hrd
      exact hall j ops[j] (Array.getElem?_eq_getElem (by omega))
    obtain ⟨hun, o, ho, hall⟩ := mem_ready.1 hi
    obtain ⟨hlt, hf⟩ := Ssa.getD_true hun
    have him : i < m0 := by
      apply Nat.lt_of_not_le
      intro hge
      apply hal
      intro j hj
      have hB := List.all_eq_true.1 htail i (List.mem_range.2 (by rw [← I.size]; exact hlt))
      simp only [Bool.or_eq_true, decide_eq_true_eq] at hB
      rcases hB with hB | hB
      · omega
      · exact Ssz.reach_listed I.closed ops.size i j o ho hall (List.all_eq_true.1 hB j (List.mem_range.2 (by omega)))
    have hi' := hin i o ho
    simp only [Ssb.inB, Bool.and_eq_true] at hi'
    have hops : ∀ t, Operand.tmp t ∈ o.op.operands → Ok t (a.eval (.tmp t)) w := by
      intro t ht
      have h4 := Array.all_eq_true_iff_forall_mem.1 hi'.2 _ ht
      refine I.holds t (by simpa using h4) fun j o' _ ho' hd => ?_
      obtain ⟨e, he, hb, rfl⟩ := F.data i o ho t ht j o' ho' hd
      exact hall e he hb
    have hlook : ∀ j b t x, o.guard = some (j, b) → Ssy.gTmp ops j = some t → t < n → told.lookup t = some x → a.tmps[t]? = some (Ssy.valOf x) := by
      intro j b t x h0 hd htn hx
      rcases F.guard i o ho with h1 | ⟨j', b', t', h1, hd', hwr⟩
      · rw [h0] at h1; cases h1
      · rw [h0] at h1
        obtain ⟨rfl, rfl⟩ : j = j' ∧ b = b' := by simpa using h1
        have : t = t' := by
          have : Ssy.gTmp ops j = some t' := hd'
          rw [hd] at this
          exact Option.some.inj this
        subst this
        have h2 := (htold t x hx _ _).1 (I.holds t htn fun k o' _ ho' hd'' => by
          obtain ⟨e, he, hb, rfl⟩ := hwr k o' ho' hd''
          exact hall e he hb)
        have hs : t < a.tmps.size := by rw [I.slots]; exact htn
        simp [Act.eval, hs] at h2
        simp [hs, h2]
    have next : ∀ (u : Value) (w' : World), C w' → Ext w w' → (∀ d, o.dst = some d → Ok d u w') → D ((listed.setIfInBounds i true).getD q false) (a.put o.dst u) w' → Inv ops m0 q C D Ok n ds fuel (listed.setIfInBounds i true) (a.put o.dst u) w' := by
      intro u w' hC hE hd hDD
      have hput : (a.put o.dst u).tmps.size = a.tmps.size ∧ (a.put o.dst u).defers = a.defers := by
        cases hdst : o.dst <;> simp [Act.put]
      refine ⟨by simpa using I.size, ?_, hC, hDD, hput.2.trans I.defers, hput.1.trans I.slots, ?_, ?_, ?_⟩
      · have := Ssa.count_set (l := listed.toList) (i := i) (by simpa using hf)
        have h0 := I.left
        simp only [Array.toList_setIfInBounds]
        omega
      · intro t htn ht
        have hold : o.dst ≠ some t → Ok t (a.eval (.tmp t)) w' := fun hne => hst _ _ _ _ (I.holds t htn fun j o' hj ho' hd' => by
          rcases Ssa.getD_set.1 (ht j o' hj ho' hd') with h' | ⟨rfl, _⟩
          · exact h'
          · rw [ho] at ho'
            obtain rfl := Option.some.inj ho'
            exact absurd hd' hne) hE
        cases hdst : o.dst with
        | none => simp only [Act.put]; exact hold (by rw [hdst]; simp)
        | some d =>
          by_cases hdt : d = t
          · subst hdt
            have hds : d < a.tmps.size := by rw [I.slots]; exact htn
            have hv := hd d hdst
            simpa [Act.eval, Act.put, hds] using hv
          · have hv := hold (by rw [hdst]; simpa using hdt)
            rw [Act.eval_put (by intro d' hd' e; cases hd'; cases e; exact hdt rfl)]
            exact hv
      · intro j hj
        have := I.rest j hj
        cases hb : (listed.setIfInBounds i true).getD j false with
        | false => rfl
        | true =>
          rcases Ssa.getD_set.1 hb with h' | ⟨h', _⟩
          · rw [h'] at this; cases this
          · omega
      · intro k o' ho' hl e he hb
        rcases Ssa.getD_set.1 hl with h' | ⟨rfl, _⟩
        · exact Ssa.getD_set.2 (Or.inl (I.closed k o' ho' h' e he hb))
        · rw [ho] at ho'
          obtain rfl := Option.some.inj ho'
          exact Ssa.getD_set.2 (Or.inl (hall e he hb))
    have hb2 : i ≠ q → (listed.setIfInBounds i true).getD q false = listed.getD q false := by
      intro hne
      simp only [Array.getD_eq_getD_getElem?, Array.getElem?_setIfInBounds]
      simp [hne]
    have hask : (Ssy.skipB ops n told o = true ∧ (D (listed.getD q false) a w → D ((listed.setIfInBounds i true).getD q false) (a.put o.dst undef) w)) ∨ (Ssy.metB ops n told o = true ∧ GoodD P C D (listed.getD q false) ((listed.setIfInBounds i true).getD q false) Ext Ok o) := by
      have hg := hgood i o him ho
      unfold Asked at hg
      split at hg
      · rename_i hiq
        subst hiq
        have e1 : listed.getD i false = false := by simp [hf]
        have e2 : (listed.setIfInBounds i true).getD i false = true := Ssa.getD_set.2 (Or.inr ⟨rfl, hlt⟩)
        rw [e1, e2]
        exact .inr hg
      · rename_i hiq
        rw [hb2 hiq]
        split at hg
        · rename_i hre
          have e1 : listed.getD q false = false := by
            cases hl : listed.getD q false with
            | false => rfl
            | true =>
              exfalso
              have hqo : ops[q]? = some ops[q] := Array.getElem?_eq_getElem (by omega)
              have := Ssz.reach_listed I.closed ops.size q i _ hqo (fun e he hb => I.closed q _ hqo hl e he hb) hre
              simp [hf] at this
          rw [e1]
          rcases hg with ⟨h1, h2⟩ | hg
          · exact .inl ⟨h1, h2 _ _⟩
          · exact .inr hg
        · rcases hg (listed.getD q false) with ⟨h1, h2⟩ | hg
          · exact .inl ⟨h1, h2 _ _⟩
          · exact .inr hg
    unfold wpOp
    rcases hask with ⟨hs, hsD⟩ | ⟨hm, hg⟩
    · have hw : Region.wanted o (yielded ops a.tmps) = false := by
        unfold Ssy.skipB at hs
        cases h0 : o.guard with
        | none => simp [h0] at hs
        | some jb =>
          obtain ⟨j, b⟩ := jb
          rw [h0] at hs
          simp only at hs
          cases hd : Ssy.gTmp ops j with
          | none => simp [hd] at hs
          | some t =>
            simp only [hd, Bool.and_eq_true, decide_eq_true_eq] at hs
            obtain ⟨⟨htn, hx⟩, _⟩ := hs
            cases hl : told.lookup t with
            | none => simp [hl] at hx
            | some x =>
              simp only [hl, Bool.not_eq_true'] at hx
              have h3 := hlook j b t x h0 hd htn hl
              have hd2 : (ops[j]?).bind (·.dst) = some t := hd
              have hne := Ssy.valOf_ne hx
              cases x with
              | none =>
                simp [Ssy.valOf] at h3
                simp [Region.wanted, h0, yielded, hd2, h3, undef]
              | some c =>
                simp [Ssy.valOf] at h3 hne
                simp [Region.wanted, h0, yielded, hd2, h3, hne]
      simp only [ho, hw]
      refine ih _ _ _ (next undef w I.world (hr w) (fun d hd => ?_) (hsD I.apart))
      unfold Ssy.skipB at hs
      cases h0 : o.guard with
      | none => simp [h0] at hs
      | some jb =>
        obtain ⟨j, b⟩ := jb
        rw [h0] at hs
        simp only at hs
        cases hd' : Ssy.gTmp ops j with
        | none => simp [hd'] at hs
        | some t =>
          simp only [hd', Bool.and_eq_true, decide_eq_true_eq, hd] at hs
          have hu := hs.2
          simp only [beq_iff_eq] at hu
          exact (htold d none hu undef w).2 rfl
    · have hw : Region.wanted o (yielded ops a.tmps) = true := by
        unfold Ssy.metB at hm
        cases h0 : o.guard with
        | none => simp [Region.wanted, h0]
        | some jb =>
          obtain ⟨j, b⟩ := jb
          rw [h0] at hm
          simp only at hm
          cases hd : Ssy.gTmp ops j with
          | none => simp [hd] at hm
          | some t =>
            simp only [hd, Bool.and_eq_true, decide_eq_true_eq] at hm
            obtain ⟨htn, hx⟩ := hm
            cases hl : told.lookup t with
            | none => simp [hl] at hx
            | some x =>
              simp only [hl, beq_iff_eq] at hx
              subst hx
              have h3 := hlook j b t _ h0 hd htn hl
              have hd2 : (ops[j]?).bind (·.dst) = some t := hd
              simp [Ssy.valOf] at h3
              simp [Region.wanted, h0, yielded, hd2, h3]
      have hg := hg a w I.world I.apart hops
      simp only [ho, hw, if_true]
      refine .inl ?_
      unfold Oper.wp
      generalize (execOp a.eval o).run P w = r at hg
      cases r with
      | ok m w' =>
        cases m with
        | value u => exact ih _ _ _ (next u w' hg.1 hg.2.1 hg.2.2.1 hg.2.2.2)
        | skip =>
          refine ih _ _ _ (next undef w' hg.1 hg.2.1 (fun d hd => ?_) hg.2.2.2)
          rw [hg.2.2.1] at hd; cases hd
        | enter f args =>
          refine Calls.mono hg fun e w'' he => ?_
          obtain ⟨u, rfl, hC, hE, hd, hDD⟩ := he
          exact ih _ _ _ (next u w'' hC hE hd hDD)
        | _ => exact hg.elim
      | halt x w' => exact hg.elim

/-- The region: the first m0 operations by predicates, the others in their order. -/
theorem region {id : Nat} {l : List Oper} {a : Act} {w : World} (m0 q : Nat) (C : World → Prop) (D : Bool → Act → World → Prop) (dsts : List Nat) (wri : List (Nat × Ssx.XP Ext)) (told : List (Tmp × Option Bool)) (hm : P.follows .mixedOrders = true) (hB : Ssa.okG l.toArray [] [] = true) (htl : Ssz.tailB l.toArray m0 = true) (hm0 : m0 ≤ l.length) (hq : q < m0)
    (hin : (l.all (Ssb.inB a.tmps.size)) = true) (htold : ∀ p ∈ told, ∀ v w, Ssx.ok a dsts wri p.1 v w ↔ v = Ssy.valOf p.2)
    (hd2 : (dsts.all fun d => decide (d < a.tmps.size) && (l.take m0).any fun o => o.dst == some d) = true) (hwr : (wri.all fun p => dsts.contains p.1) = true)
    (hr : ∀ w, Ext w w) (hC : C (w.drewN 1)) (hD : D false a (w.drewN 1))
    (hgood : AllGood P C D Ext (Ssx.ok a dsts wri) l.toArray a.tmps.size told q 0 (l.take m0))
    (hQ : ∀ (vals : Nat → Value) (w' : World), C w' → D true (Ssa.putAll a (dsts.map fun d => (d, vals d))) w' → (∀ p ∈ wri, Ssx.ok a dsts wri p.1 (vals p.1) w') → wpList P l.toArray Q (l.drop m0) (Ssa.putAll a (dsts.map fun d => (d, vals d))) w') : (Code.region id l.toArray true).wp P Q a w := by
  have hst : ∀ t v w w', Ssx.ok a dsts wri t v w → Ext w w' → Ssx.ok a dsts wri t v w' := by
    intro t v w w' h e
    unfold Ssx.ok at *
    cases hq : wri.lookup t with
    | some q => rw [hq] at h; exact q.st v w w' h e
    | none => rw [hq] at h; exact h
  have hnot : ∀ t, t ∉ dsts → wri.lookup t = none := by
    intro t ht
    cases hq : wri.lookup t with
    | none => rfl
    | some q =>
      have := List.all_eq_true.1 hwr _ (Ssx.lookup_mem hq)
      exact absurd (by simpa using this) ht
  have F := Ssa.fits_ofG hB
  refine wp_region_any hm (walk (Ext := Ext) (Ok := Ssx.ok a dsts wri) (n := a.tmps.size) (ds := a.defers) (told := told) (D := D) (m0 := m0) (q := q) (by simpa using hm0) hq F htl (fun i o ho => List.all_eq_true.1 hin o (List.mem_of_getElem? (by simpa using ho)))
    (fun i o hi ho => by have h := allGood_at (l.take m0) 0 hgood i o (by rw [List.getElem?_take, if_pos hi]; simpa using ho); rwa [Nat.zero_add] at h) hr hst (fun t x hx => htold _ (Ssy.lookup_of hx)) ?_ _ _ _ _ ⟨by simp, by simp, hC, by rw [show (Array.replicate l.toArray.size false).getD q false = false by simp [Array.getElem?_replicate]; split <;> simp_all]; exact hD, rfl, rfl, ?_, ?_, ?_⟩)
  · intro a' w' hC' hD' hdef hsz hok
    have hall : ∀ d ∈ dsts, d < a.tmps.size := by
      intro d hd
      have h1 := List.all_eq_true.1 hd2 _ hd
      simp only [Bool.and_eq_true, decide_eq_true_eq] at h1
      exact h1.1
    have e : a' = Ssa.putAll a (dsts.map fun d => (d, a'.eval (.tmp d))) := by
      cases a' with
      | mk tmps' defers' =>
        unfold Ssa.putAll
        simp only [Act.mk.injEq]
        refine ⟨?_, hdef⟩
        apply Array.ext_getElem?
        intro t
        by_cases ht : t < a.tmps.size
        · have hsz' : tmps'.size = a.tmps.size := hsz
          have ht' : t < tmps'.size := by rw [hsz']; exact ht
          by_cases hd : t ∈ dsts
          · rw [Ssx.puts _ (fun d => ({ tmps := tmps', defers := defers' } : Act).eval (.tmp d)) dsts t hall hd]
            simp [Act.eval, ht']
          · rw [Ssa.putAll_other _ _ _ (by
              intro p hp e
              obtain ⟨e', he, rfl⟩ := List.mem_map.1 hp
              exact hd (e ▸ he))]
            have h1 := hok t ht
            unfold Ssx.ok at h1
            rw [hnot t hd, show dsts.contains t = false by simpa using hd] at h1
            simp [Act.eval, ht, ht'] at h1
            simp [ht, ht', h1]
        · have hsz' : tmps'.size = a.tmps.size := hsz
          rw [Array.getElem?_eq_none (by omega), Array.getElem?_eq_none (by rw [Ssa.putAll_size]; omega)]
    have hD2 := hD'
    rw [e] at hD2
    rw [e]
    refine hQ (fun d => a'.eval (.tmp d)) w' hC' hD2 fun p hp => ?_
    have hp1 := List.all_eq_true.1 hwr _ hp
    exact hok p.1 (hall _ (by simpa using hp1))
  · intro t ht hw
    have hun : ∀ (i : Nat) (o : Oper), i < m0 → l.toArray[i]? = some o → o.dst ≠ some t := by
      intro i o hi ho hd
      have := hw i o hi ho hd
      simp [Array.getElem?_replicate] at this
      split at this <;> simp_all
    have htd : t ∉ dsts := by
      intro h
      have h1 := List.all_eq_true.1 hd2 _ h
      simp only [Bool.and_eq_true] at h1
      obtain ⟨o, ho, he⟩ := List.any_eq_true.1 h1.2
      obtain ⟨i, hi, rfl⟩ := List.mem_iff_getElem.1 ho
      have hi2 : i < m0 ∧ i < l.length := by rw [List.length_take] at hi; omega
      exact hun i l[i] hi2.1 (by simp [hi2.2]) (by simpa using he)
    unfold Ssx.ok
    rw [hnot t htd, show dsts.contains t = false by simpa using htd]
  · intro j _
    simp [Array.getElem?_replicate]
    split <;> simp_all
  · intro k o ho hl
    simp [Array.getElem?_replicate] at hl
    split at hl <;> simp_all


/-- Nothing that lay below B has turned, nor any block of another kind. -/
structure Kp (B : Nat) (ty : TypeId) (w w' : World) : Prop where
  below : Below B w w'
  row : ∀ g t vs, t ≠ ty → Row w g t vs → Row w' g t vs
theorem Kp.refl (B : Nat) (ty : TypeId) (w : World) : Kp B ty w w := ⟨Below.refl _ _, fun _ _ _ _ h => h⟩
theorem Kp.of_old {B : Nat} {ty : TypeId} {w w' : World} (hB : B ≤ w.heap.size) (o : Old w w') : Kp B ty w w' := ⟨Below.mono o hB, fun _ _ _ _ h => h.mono o⟩
/-- What slot s points to: a new block, of zeros till it is stored into. -/
def Mk (s B : Nat) (ty : TypeId) (zs cs : List Value) (b : Bool) (a : Act) (w : World) : Prop := ∀ x, a.eval (.tmp s) = .pointer (some x) → ∃ g, x = ⟨g, 0, none⟩ ∧ B ≤ g ∧ Row w g ty (if b then cs else zs)
theorem Mk.none {s B : Nat} {ty : TypeId} {zs cs : List Value} {b : Bool} {a : Act} {w : World} (h : a.eval (.tmp s) = undef) : Mk s B ty zs cs b a w := by
  intro x hx
  rw [h] at hx
  cases hx

/-- An operation that changes nothing old, and writes another slot. -/
theorem keep {s B : Nat} {ty : TypeId} {zs cs : List Value} {b : Bool} {o : Oper} (h : Ssb.Good P C Old Ok o) (hB : ∀ w, C w → B ≤ w.heap.size) (hd : (match o.dst with | some d => d != s | none => true) = true) : GoodD P C (Mk s B ty zs cs) b b (Kp B ty) Ok o :=
  good_lift h (fun w w' hc ho => Kp.of_old (hB w hc) ho) fun a w w' u hc hD ho x hx => by
    have e : (a.put o.dst u).eval (.tmp s) = a.eval (.tmp s) := Act.eval_put (by
      intro d' hd' he
      rw [hd'] at hd
      cases he
      simp at hd)
    rw [e] at hx
    obtain ⟨g, h1, h2, h3⟩ := hD x hx
    exact ⟨g, h1, h2, h3.mono ho⟩
theorem skip {s B : Nat} {ty : TypeId} {zs cs : List Value} {b : Bool} {o : Oper} (hd : (match o.dst with | some d => d != s | none => true) = true) (a : Act) (w : World) (hD : Mk s B ty zs cs b a w) : Mk s B ty zs cs b (a.put o.dst undef) w := fun x hx => by
  have e : (a.put o.dst undef).eval (.tmp s) = a.eval (.tmp s) := Act.eval_put (by
    intro d' hd' he
    rw [hd'] at hd
    cases he
    simp at hd)
  rw [e] at hx
  exact hD x hx
theorem alloc {s B : Nat} {ty : TypeId} {zs cs : List Value} {o : Oper} (ho : o.op = .alloc ty) (hd : o.dst = some s) (hrun : ∀ w, (execOp (fun _ => undef) o).run P w = .ok (.value (.pointer (some ⟨w.heap.size, 0, none⟩))) (w.alloc (.cells zs.toArray ty)))
    (hC : ∀ w, C w → C (w.alloc (.cells zs.toArray ty))) (hB : ∀ w, C w → B ≤ w.heap.size) (hOk : ∀ g w, Ok s (.pointer (some ⟨g, 0, none⟩)) w) : GoodD P C (Mk s B ty zs cs) false false (Kp B ty) Ok o := by
  intro a w hc hD hop
  have e : (execOp a.eval o).run P w = (execOp (fun _ => undef) o).run P w := by unfold execOp; simp only [ho]
  rw [e, hrun w]
  refine ⟨hC w hc, Kp.of_old (hB w hc) (Old.of_alloc _ _), fun d' hd' => ?_, fun x hx => ?_⟩
  · rw [hd] at hd'
    obtain rfl := Option.some.inj hd'
    exact hOk _ _
  · rw [hd] at hx
    by_cases hs : s < a.tmps.size
    · simp [Act.put, Act.eval, hs] at hx
      exact ⟨w.heap.size, hx.symm, hB w hc, Row.new _ _ _⟩
    · simp [Act.put, Act.eval, hs, undef] at hx
theorem store {s y B : Nat} {ty : TypeId} {zs cs : List Value} {o : Oper} (ho : o.op = .store ty (.tmp s) (.tmp y)) (hd : o.dst = none) (hs : ∀ v w, Ok s v w → ∃ g, v = .pointer (some ⟨g, 0, none⟩)) (hy : ∀ v w, Ok y v w → v = .agg cs.toArray)
    (hi : (P.info? ty).map (·.size) = some cs.length) (hl : zs.length = cs.length) (h1 : ∀ v ∈ cs, v.oneCell' = true)
    (hC : ∀ w g, C w → B ≤ g → Row w g ty zs → C (w.setRow g cs.toArray)) (hB : ∀ w, C w → B ≤ w.heap.size) : GoodD P C (Mk s B ty zs cs) false true (Kp B ty) Ok o := by
  intro a w hc hD hop
  obtain ⟨g, hx⟩ := hs _ _ (hop s (by rw [ho]; simp [Op.operands]))
  have hv := hy _ _ (hop y (by rw [ho]; simp [Op.operands]))
  obtain ⟨g', hg, hBg, R⟩ := hD _ hx
  obtain rfl : g = g' := by simpa using hg
  have hr : (execOp a.eval o).run P w = .ok .skip (w.setRow g cs.toArray) := by
    unfold execOp
    simp only [ho, hx, hv, Instr.storeAt, Instr.sureAddr, Sem.run_bind, Sem.run_pure, Result.andThen_ok, run_store_whole R hi hl h1]
  rw [hr]
  have gr := grown_setRow w g cs.toArray
  refine ⟨hC w g hc hBg R, ⟨?_, fun g2 t vs ht R2 => R2.grown gr ?_⟩, hd, fun x hx' => ?_⟩
  · exact Below.grown (Below.refl _ _) gr (hB w hc) (fun k e => by cases e; exact hBg)
  · rintro rfl
    unfold Row at R R2
    rw [R] at R2
    simp at R2
    exact ht R2.2.symm
  · rw [hd] at hx'
    simp only [Act.put] at hx'
    rw [hx] at hx'
    obtain rfl : x = ⟨g, 0, Option.none⟩ := by simpa using hx'.symm
    exact ⟨g, rfl, hBg, R.whole cs⟩
end
end Ssm
end Go.Proofs.Ythaaajepolahfaa
