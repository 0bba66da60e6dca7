/-
  A region that draws its order, whose last operations wait for all others: the first ones are told by predicates (module Ssy), the last ones are walked in their order.
-/
import Derived.Test.YtnmigdcedcmbkaaSsy
namespace Go.Proofs.Ytnmigdcedcmbkaa
open Go Go.RowKit
set_option linter.unusedVariables false
namespace Ssz

section
variable {P : Program} {Q : Exit → Act → World → Prop} {C : World → Prop} {D : Act → World → Prop} {Ext : World → World → Prop} {Ok : Tmp → Value → World → Prop} {n : Nat} {ops : Array Oper} {told : List (Tmp × Option Bool)}

/-- Operation i waits for j, by some steps. -/
def reach (ops : Array Oper) : Nat → Nat → Nat → Bool
  | 0, _, _ => false
  | f + 1, i, j => match ops[i]? with
    | some o => o.after.any fun e => Region.binds .any e && (e.on == j || reach ops f e.on j)
    | none => false
def tailB (ops : Array Oper) (m : Nat) : Bool := (List.range ops.size).all fun i => decide (i < m) || (List.range i).all fun j => reach ops ops.size i j

def Closed (ops : Array Oper) (listed : Array Bool) : Prop := ∀ (i : Nat) (o : Oper), ops[i]? = some o → listed.getD i false = true → ∀ e ∈ o.after, Region.binds .any e = true → listed.getD e.on false = true
theorem reach_listed {listed : Array Bool} (hc : Closed ops listed) : ∀ (f i j : Nat) (o : Oper), ops[i]? = some o → (∀ e ∈ o.after, Region.binds .any e = true → listed.getD e.on false = true) → reach ops f i j = true → listed.getD j false = true
  | 0, i, j, o, ho, hall, h => by simp [reach] at h
  | f + 1, i, j, o, ho, hall, h => by
    rw [reach, ho] at h
    simp only [Array.any_eq_true] at h
    obtain ⟨k, hk, h⟩ := h
    simp only [Bool.and_eq_true, Bool.or_eq_true, beq_iff_eq] at h
    have hm : o.after[k] ∈ o.after := Array.getElem_mem hk
    have hl := hall _ hm h.1
    rcases h.2 with h2 | h2
    · rw [← h2]; exact hl
    · cases ho2 : ops[o.after[k].on]? with
      | none =>
        exfalso
        cases f with
        | zero => simp [reach] at h2
        | succ f => simp [reach, ho2] at h2
      | some o2 => exact reach_listed hc f _ j o2 ho2 (fun e he hb => hc _ _ ho2 hl e he hb) h2

/-- The last operations, in their order. -/
theorem tail (F : Ssa.Fits ops [] []) {m0 : Nat} (ht : tailB ops m0 = true) : ∀ (fuel m : Nat) (listed : Array Bool) (a : Act) (w : World), m0 ≤ m → m + fuel = ops.size → listed.size = ops.size → (∀ j, j < m → listed.getD j false = true) → (∀ j, m ≤ j → listed.getD j false = false) →
    wpList P ops Q (ops.toList.drop m) a w → wpAny P .any ops Q fuel listed a w := by
  intro fuel
  have hone : ∀ (m : Nat) (listed : Array Bool), m0 ≤ m → listed.size = ops.size → (∀ j, j < m → listed.getD j false = true) → (∀ j, m ≤ j → listed.getD j false = false) → ∀ i ∈ Region.ready .any ops listed, i = m := by
    intro m listed hm hsz h1 h2 i hi
    obtain ⟨hun, o, ho, hall⟩ := mem_ready.1 hi
    obtain ⟨hlt, hf⟩ := Ssa.getD_true hun
    have him : m ≤ i := by
      apply Nat.le_of_not_lt
      intro h
      have := h1 i h
      simp [hf] at this
    apply Nat.le_antisymm _ him
    apply Nat.le_of_not_lt
    intro hlt2
    have hio : i < ops.size := by rw [← hsz]; exact hlt
    have hB := List.all_eq_true.1 ht i (List.mem_range.2 hio)
    simp only [Bool.or_eq_true, decide_eq_true_eq] at hB
    rcases hB with hB | hB
    · omega
    · have hr := List.all_eq_true.1 hB m (List.mem_range.2 hlt2)
      have hcl : Closed ops listed := by
        intro k o' ho' hl e he hb
        have hk : k < m := by
          apply Nat.lt_of_not_le
          intro h
          rw [h2 k h] at hl
          cases hl
        exact h1 _ (Nat.lt_trans (F.back k o' ho' e he hb) hk)
      have := reach_listed hcl ops.size i m o ho hall hr
      rw [h2 m (Nat.le_refl _)] at this
      cases this
  induction fuel with
  | zero =>
    intro m listed a w hm hs hsz h1 h2 hw
    have hr : Region.ready .any ops listed = [] := by
      cases hc : Region.ready .any ops listed with
      | nil => rfl
      | cons i l =>
        have hi : i ∈ Region.ready .any ops listed := by rw [hc]; simp
        have e := hone m listed hm hsz h1 h2 i hi
        obtain ⟨_, o, ho, _⟩ := mem_ready.1 hi
        have := (Array.getElem?_eq_some_iff.1 ho).1
        omega
    rw [List.drop_eq_nil_of_le (by simp; omega)] at hw
    exact ⟨hr, hw⟩
  | succ fuel ih =>
    intro m listed a w hm hs hsz h1 h2 hw
    have hmo : m < ops.size := by omega
    have hd : ops.toList.drop m = ops[m] :: ops.toList.drop (m + 1) := by
      rw [List.drop_eq_getElem_cons (by simpa using hmo)]
      simp
    rw [hd] at hw
    have hread : m ∈ Region.ready .any ops listed := by
      refine mem_ready.2 ⟨?_, ops[m], Array.getElem?_eq_getElem hmo, fun e he hb => h1 _ (F.back m _ (Array.getElem?_eq_getElem hmo) e he hb)⟩
      have := h2 m (Nat.le_refl _)
      have hml : m < listed.size := by omega
      simp [hml] at this ⊢
      exact this
    refine ⟨fun hr => (by rw [hr] at hread; cases hread), fun i hi => ?_⟩
    obtain rfl := hone m listed hm hsz h1 h2 i hi
    have next : ∀ a w, wpList P ops Q (ops.toList.drop (i + 1)) a w → wpAny P .any ops Q fuel (listed.setIfInBounds i true) a w := by
      intro a w h
      refine ih (i + 1) _ a w (by omega) (by omega) (by simpa using hsz) (fun j hj => ?_) (fun j hj => ?_) h
      · by_cases e : j = i
        · subst e
          have : j < listed.size := by omega
          simp [this]
        · have := h1 j (by omega)
          exact Ssa.getD_set.2 (Or.inl this)
      · have := h2 j (by omega)
        cases hb : (listed.setIfInBounds i true).getD j false with
        | false => rfl
        | true =>
          rcases Ssa.getD_set.1 hb with h' | ⟨h', _⟩
          · rw [h'] at this; cases this
          · omega
    unfold wpOp
    rw [Array.getElem?_eq_getElem hmo]
    unfold wpList at hw
    split at hw
    · rename_i hwant
      simp only [hwant, if_true]
      rcases hw with hw | hw
      · exact .inl (Oper.wp_mono next hw)
      · exact .inr hw
    · rename_i hwant
      simp only [hwant]
      exact next _ _ hw

/-- The operation, run in a world of the class over operands that meet their predicates, yields what meets its own; and D outlasts it. -/
def GoodD (P : Program) (C : World → Prop) (D : Act → World → Prop) (Ext : World → World → Prop) (Ok : Tmp → Value → World → Prop) (o : Oper) : Prop :=
  ∀ (a : Act) (w : World), C w → D a w → (∀ t, Operand.tmp t ∈ o.op.operands → Ok t (a.eval (.tmp t)) w) →
    match (execOp a.eval o).run P w with
    | .ok (.value u) w' => C w' ∧ Ext w w' ∧ (∀ d, o.dst = some d → Ok d u w') ∧ D (a.put o.dst u) w'
    | .ok .skip w' => C w' ∧ Ext w w' ∧ o.dst = none ∧ D (a.put o.dst undef) w'
    | .ok (.enter f args) w' => Calls P f args w' (fun e w'' => ∃ u, e = .returned u ∧ C w'' ∧ Ext w w'' ∧ (∀ d, o.dst = some d → Ok d u w'') ∧ D (a.put o.dst u) w'')
    | _ => False
theorem good_lift {o : Oper} (h : Ssb.Good P C Ext Ok o) (hD : ∀ a w w' u, D a w → Ext w w' → D (a.put o.dst u) w') : GoodD P C D Ext Ok o := by
  intro a w hC hd hop
  have hg := h a w hC hop
  cases hr : (execOp a.eval o).run P w with
  | ok m w' =>
    rw [hr] at hg
    cases m with
    | value u => exact ⟨hg.1, hg.2.1, hg.2.2, hD _ _ _ _ hd hg.2.1⟩
    | skip => exact ⟨hg.1, hg.2.1, hg.2.2, hD _ _ _ _ hd hg.2.1⟩
    | enter f args =>
      refine Calls.mono hg fun e w'' he => ?_
      obtain ⟨u, h1, h2, h3, h4⟩ := he
      exact ⟨u, h1, h2, h3, h4, hD _ _ _ _ hd h3⟩
    | _ => exact hg.elim
  | halt x w' => rw [hr] at hg; exact hg.elim
def AllGood (P : Program) (C : World → Prop) (D : Act → World → Prop) (Ext : World → World → Prop) (Ok : Tmp → Value → World → Prop) (ops : Array Oper) (n : Nat) (told : List (Tmp × Option Bool)) : List Oper → Prop
  | [] => True
  | o :: l => (Ssy.skipB ops n told o = true ∧ (∀ a w, D a w → D (a.put o.dst undef) w) ∨ Ssy.metB ops n told o = true ∧ GoodD P C D Ext Ok o) ∧ AllGood P C D Ext Ok ops n told l
theorem allGood_at : ∀ (l : List Oper), AllGood P C D Ext Ok ops n told l → ∀ (i : Nat) (o : Oper), l[i]? = some o → Ssy.skipB ops n told o = true ∧ (∀ a w, D a w → D (a.put o.dst undef) w) ∨ Ssy.metB ops n told o = true ∧ GoodD P C D Ext Ok o
  | [], _, _, _, h => by simp at h
  | o :: l, h, 0, o', e => by simp at e; subst e; exact h.1
  | o :: l, h, i + 1, o', e => allGood_at l h.2 i o' (by simpa using e)

structure Inv (ops : Array Oper) (m0 : Nat) (C : World → Prop) (D : Act → World → Prop) (Ok : Tmp → Value → World → Prop) (n : Nat) (ds : List Deferred) (fuel : Nat) (listed : Array Bool) (a : Act) (w : World) : Prop where
  size : listed.size = ops.size
  left : listed.toList.count false = fuel
  world : C w
  apart : D a w
  defers : a.defers = ds
  slots : a.tmps.size = n
  holds : ∀ t, t < n → (∀ (i : Nat) (o : Oper), i < m0 → ops[i]? = some o → o.dst = some t → listed.getD i false = true) → Ok t (a.eval (.tmp t)) w
  rest : ∀ j, m0 ≤ j → listed.getD j false = false
  closed : Closed ops listed

theorem count_all : ∀ (l : List Bool) (m : Nat), m ≤ l.length → (∀ j, j < m → l[j]? = some true) → (∀ j, m ≤ j → j < l.length → l[j]? = some false) → l.count false = l.length - m
  | [], m, h, _, _ => by simp
  | b :: l, 0, h, h1, h2 => by
    have hb := h2 0 (by omega) (by simp)
    simp at hb
    subst hb
    have ih := count_all l 0 (by omega) (fun j hj => by omega) (fun j _ hj => by simpa using h2 (j + 1) (by omega) (by simpa using hj))
    rw [List.count_cons_self, ih]; simp
  | b :: l, m + 1, h, h1, h2 => by
    have hb := h1 0 (by omega)
    simp at hb
    subst hb
    have ih := count_all l m (by simpa using h) (fun j hj => by simpa using h1 (j + 1) (by omega)) (fun j hm hj => by simpa using h2 (j + 1) (by omega) (by simpa using hj))
    rw [List.count_cons_of_ne (by simp), ih]; simp

theorem walk {ds : List Deferred} {m0 : Nat} (hm0 : m0 ≤ ops.size) (F : Ssa.Fits ops [] []) (htail : tailB ops m0 = true) (hin : ∀ (i : Nat) (o : Oper), ops[i]? = some o → Ssb.inB n o = true)
    (hgood : ∀ (i : Nat) (o : Oper), i < m0 → ops[i]? = some o → Ssy.skipB ops n told o = true ∧ (∀ a w, D a w → D (a.put o.dst undef) w) ∨ Ssy.metB ops n told o = true ∧ GoodD P C D Ext Ok o)
    (hr : ∀ w, Ext w w) (hst : ∀ t v w w', Ok t v w → Ext w w' → Ok t v w') (htold : ∀ t x, told.lookup t = some x → ∀ v w, Ok t v w ↔ v = Ssy.valOf x)
    (hQ : ∀ a w, C w → D a w → a.defers = ds → a.tmps.size = n → (∀ t, t < n → Ok t (a.eval (.tmp t)) w) → wpList P ops Q (ops.toList.drop m0) a w) :
    ∀ (fuel : Nat) (listed : Array Bool) (a : Act) (w : World), Inv ops m0 C D Ok n ds fuel listed a w → wpAny P .any ops Q fuel listed a w := by
  have fin : ∀ (fuel : Nat) (listed : Array Bool) (a : Act) (w : World), Inv ops m0 C D Ok n ds fuel listed a w → (∀ j, j < m0 → listed.getD j false = true) → wpAny P .any ops Q fuel listed a w := by
    intro fuel listed a w I hall
    have hf : fuel = ops.size - m0 := by
      rw [← I.left, count_all listed.toList m0 (by simpa [I.size] using hm0) (fun j hj => ?_) (fun j hj hl => ?_)]
      · simp [I.size]
      · have := hall j hj
        have hjl : j < listed.size := by rw [I.size]; omega
        simp [hjl] at this
        simp [hjl, this]
      · have := I.rest j hj
        have hjl : j < listed.size := by simpa using hl
        simp [hjl] at this
        simp [hjl, this]
    exact tail F htail fuel m0 listed a w (Nat.le_refl _) (by omega) I.size hall I.rest (hQ a w I.world I.apart I.defers I.slots fun t ht => I.holds t ht fun i o hi ho _ => hall i hi)
  intro fuel
  induction fuel with
  | zero =>
    intro listed a w I
    refine fin _ _ _ _ I fun j hj => ?_
    have h0 := I.left
    rw [List.count_eq_zero] at h0
    have hjl : j < listed.size := by rw [I.size]; omega
    cases hb : listed[j] with
    | true => simp [hjl, hb]
    | false =>
      exfalso
      apply h0
      have : listed.toList[j]? = some false := by simp [hjl, hb]
      exact List.mem_of_getElem? this
  | succ fuel ih =>
    intro listed a w I
    by_cases hal : ∀ j, j < m0 → listed.getD j false = true
    · exact fin _ _ _ _ I hal
    refine ⟨fun hrd => absurd (fun j hj => ?_) hal, fun i hi => ?_⟩
    · have hall := Ssa.all_listed F I.size hrd
      exact hall j ops[j] (Array.getElem?_eq_getElem (by omega))
    obtain ⟨hun, o, ho, hall⟩ := mem_ready.1 hi
    obtain ⟨hlt, hf⟩ := Ssa.getD_true hun
    have him : i < m0 := by
      apply Nat.lt_of_not_le
      intro hge
      apply hal
      intro j hj
      have hB := List.all_eq_true.1 htail i (List.mem_range.2 (by rw [← I.size]; exact hlt))
      simp only [Bool.or_eq_true, decide_eq_true_eq] at hB
      rcases hB with hB | hB
      · omega
      · exact reach_listed I.closed ops.size i j o ho hall (List.all_eq_true.1 hB j (List.mem_range.2 (by omega)))
    have hi' := hin i o ho
    simp only [Ssb.inB, Bool.and_eq_true] at hi'
    have hops : ∀ t, Operand.tmp t ∈ o.op.operands → Ok t (a.eval (.tmp t)) w := by
      intro t ht
      have h4 := Array.all_eq_true_iff_forall_mem.1 hi'.2 _ ht
      refine I.holds t (by simpa using h4) fun j o' _ ho' hd => ?_
      obtain ⟨e, he, hb, rfl⟩ := F.data i o ho t ht j o' ho' hd
      exact hall e he hb
    have hlook : ∀ j b t x, o.guard = some (j, b) → Ssy.gTmp ops j = some t → t < n → told.lookup t = some x → a.tmps[t]? = some (Ssy.valOf x) := by
      intro j b t x h0 hd htn hx
      rcases F.guard i o ho with h1 | ⟨j', b', t', h1, hd', hwr⟩
      · rw [h0] at h1; cases h1
      · rw [h0] at h1
        obtain ⟨rfl, rfl⟩ : j = j' ∧ b = b' := by simpa using h1
        have : t = t' := by
          have : Ssy.gTmp ops j = some t' := hd'
          rw [hd] at this
          exact Option.some.inj this
        subst this
        have h2 := (htold t x hx _ _).1 (I.holds t htn fun k o' _ ho' hd'' => by
          obtain ⟨e, he, hb, rfl⟩ := hwr k o' ho' hd''
          exact hall e he hb)
        have hs : t < a.tmps.size := by rw [I.slots]; exact htn
        simp [Act.eval, hs] at h2
        simp [hs, h2]
    have next : ∀ (u : Value) (w' : World), C w' → Ext w w' → (∀ d, o.dst = some d → Ok d u w') → D (a.put o.dst u) w' → Inv ops m0 C D Ok n ds fuel (listed.setIfInBounds i true) (a.put o.dst u) w' := by
      intro u w' hC hE hd hDD
      have hput : (a.put o.dst u).tmps.size = a.tmps.size ∧ (a.put o.dst u).defers = a.defers := by
        cases hdst : o.dst <;> simp [Act.put]
      refine ⟨by simpa using I.size, ?_, hC, hDD, hput.2.trans I.defers, hput.1.trans I.slots, ?_, ?_, ?_⟩
      · have := Ssa.count_set (l := listed.toList) (i := i) (by simpa using hf)
        have h0 := I.left
        simp only [Array.toList_setIfInBounds]
        omega
      · intro t htn ht
        have hold : o.dst ≠ some t → Ok t (a.eval (.tmp t)) w' := fun hne => hst _ _ _ _ (I.holds t htn fun j o' hj ho' hd' => by
          rcases Ssa.getD_set.1 (ht j o' hj ho' hd') with h' | ⟨rfl, _⟩
          · exact h'
          · rw [ho] at ho'
            obtain rfl := Option.some.inj ho'
            exact absurd hd' hne) hE
        cases hdst : o.dst with
        | none => simp only [Act.put]; exact hold (by rw [hdst]; simp)
        | some d =>
          by_cases hdt : d = t
          · subst hdt
            have hds : d < a.tmps.size := by rw [I.slots]; exact htn
            have hv := hd d hdst
            simpa [Act.eval, Act.put, hds] using hv
          · have hv := hold (by rw [hdst]; simpa using hdt)
            rw [Act.eval_put (by intro d' hd' e; cases hd'; cases e; exact hdt rfl)]
            exact hv
      · intro j hj
        have := I.rest j hj
        cases hb : (listed.setIfInBounds i true).getD j false with
        | false => rfl
        | true =>
          rcases Ssa.getD_set.1 hb with h' | ⟨h', _⟩
          · rw [h'] at this; cases this
          · omega
      · intro k o' ho' hl e he hb
        rcases Ssa.getD_set.1 hl with h' | ⟨rfl, _⟩
        · exact Ssa.getD_set.2 (Or.inl (I.closed k o' ho' h' e he hb))
        · rw [ho] at ho'
          obtain rfl := Option.some.inj ho'
          exact Ssa.getD_set.2 (Or.inl (hall e he hb))
    unfold wpOp
    rcases hgood i o him ho with ⟨hs, hsD⟩ | ⟨hm, hg⟩
    · have hw : Region.wanted o (yielded ops a.tmps) = false := by
        unfold Ssy.skipB at hs
        cases h0 : o.guard with
        | none => simp [h0] at hs
        | some jb =>
          obtain ⟨j, b⟩ := jb
          rw [h0] at hs
          simp only at hs
          cases hd : Ssy.gTmp ops j with
          | none => simp [hd] at hs
          | some t =>
            simp only [hd, Bool.and_eq_true, decide_eq_true_eq] at hs
            obtain ⟨⟨htn, hx⟩, _⟩ := hs
            cases hl : told.lookup t with
            | none => simp [hl] at hx
            | some x =>
              simp only [hl, Bool.not_eq_true'] at hx
              have h3 := hlook j b t x h0 hd htn hl
              have hd2 : (ops[j]?).bind (·.dst) = some t := hd
              have hne := Ssy.valOf_ne hx
              cases x with
              | none =>
                simp [Ssy.valOf] at h3
                simp [Region.wanted, h0, yielded, hd2, h3, undef]
              | some c =>
                simp [Ssy.valOf] at h3 hne
                simp [Region.wanted, h0, yielded, hd2, h3, hne]
      simp only [ho, hw]
      refine ih _ _ _ (next undef w I.world (hr w) (fun d hd => ?_) (hsD _ _ I.apart))
      unfold Ssy.skipB at hs
      cases h0 : o.guard with
      | none => simp [h0] at hs
      | some jb =>
        obtain ⟨j, b⟩ := jb
        rw [h0] at hs
        simp only at hs
        cases hd' : Ssy.gTmp ops j with
        | none => simp [hd'] at hs
        | some t =>
          simp only [hd', Bool.and_eq_true, decide_eq_true_eq, hd] at hs
          have hu := hs.2
          simp only [beq_iff_eq] at hu
          exact (htold d none hu undef w).2 rfl
    · have hw : Region.wanted o (yielded ops a.tmps) = true := by
        unfold Ssy.metB at hm
        cases h0 : o.guard with
        | none => simp [Region.wanted, h0]
        | some jb =>
          obtain ⟨j, b⟩ := jb
          rw [h0] at hm
          simp only at hm
          cases hd : Ssy.gTmp ops j with
          | none => simp [hd] at hm
          | some t =>
            simp only [hd, Bool.and_eq_true, decide_eq_true_eq] at hm
            obtain ⟨htn, hx⟩ := hm
            cases hl : told.lookup t with
            | none => simp [hl] at hx
            | some x =>
              simp only [hl, beq_iff_eq] at hx
              subst hx
              have h3 := hlook j b t _ h0 hd htn hl
              have hd2 : (ops[j]?).bind (·.dst) = some t := hd
              simp [Ssy.valOf] at h3
              simp [Region.wanted, h0, yielded, hd2, h3]
      have hg := hg a w I.world I.apart hops
      simp only [ho, hw, if_true]
      refine .inl ?_
      unfold Oper.wp
      generalize (execOp a.eval o).run P w = r at hg
      cases r with
      | ok m w' =>
        cases m with
        | value u => exact ih _ _ _ (next u w' hg.1 hg.2.1 hg.2.2.1 hg.2.2.2)
        | skip =>
          refine ih _ _ _ (next undef w' hg.1 hg.2.1 (fun d hd => ?_) hg.2.2.2)
          rw [hg.2.2.1] at hd; cases hd
        | enter f args =>
          refine Calls.mono hg fun e w'' he => ?_
          obtain ⟨u, rfl, hC, hE, hd, hDD⟩ := he
          exact ih _ _ _ (next u w'' hC hE hd hDD)
        | _ => exact hg.elim
      | halt x w' => exact hg.elim

/-- The region: the first m0 operations by predicates, the others in their order. -/
theorem region {id : Nat} {l : List Oper} {a : Act} {w : World} (m0 : Nat) (C : World → Prop) (D : Act → World → Prop) (dsts : List Nat) (wri : List (Nat × Ssx.XP Ext)) (told : List (Tmp × Option Bool)) (hm : P.follows .mixedOrders = true) (hB : Ssa.okG l.toArray [] [] = true) (htl : tailB l.toArray m0 = true) (hm0 : m0 ≤ l.length)
    (hin : (l.all (Ssb.inB a.tmps.size)) = true) (htold : ∀ p ∈ told, ∀ v w, Ssx.ok a dsts wri p.1 v w ↔ v = Ssy.valOf p.2)
    (hd2 : (dsts.all fun d => decide (d < a.tmps.size) && (l.take m0).any fun o => o.dst == some d) = true) (hwr : (wri.all fun p => dsts.contains p.1) = true)
    (hr : ∀ w, Ext w w) (hC : C (w.drewN 1)) (hD : D a (w.drewN 1))
    (hgood : AllGood P C D Ext (Ssx.ok a dsts wri) l.toArray a.tmps.size told (l.take m0))
    (hQ : ∀ (vals : Nat → Value) (w' : World), C w' → D (Ssa.putAll a (dsts.map fun d => (d, vals d))) w' → (∀ p ∈ wri, Ssx.ok a dsts wri p.1 (vals p.1) w') → wpList P l.toArray Q (l.drop m0) (Ssa.putAll a (dsts.map fun d => (d, vals d))) w') : (Code.region id l.toArray true).wp P Q a w := by
  have hst : ∀ t v w w', Ssx.ok a dsts wri t v w → Ext w w' → Ssx.ok a dsts wri t v w' := by
    intro t v w w' h e
    unfold Ssx.ok at *
    cases hq : wri.lookup t with
    | some q => rw [hq] at h; exact q.st v w w' h e
    | none => rw [hq] at h; exact h
  have hnot : ∀ t, t ∉ dsts → wri.lookup t = none := by
    intro t ht
    cases hq : wri.lookup t with
    | none => rfl
    | some q =>
      have := List.all_eq_true.1 hwr _ (Ssx.lookup_mem hq)
      exact absurd (by simpa using this) ht
  have F := Ssa.fits_ofG hB
  refine wp_region_any hm (walk (Ext := Ext) (Ok := Ssx.ok a dsts wri) (n := a.tmps.size) (ds := a.defers) (told := told) (D := D) (m0 := m0) (by simpa using hm0) F htl (fun i o ho => List.all_eq_true.1 hin o (List.mem_of_getElem? (by simpa using ho)))
    (fun i o hi ho => allGood_at (l.take m0) hgood i o (by rw [List.getElem?_take, if_pos hi]; simpa using ho)) hr hst (fun t x hx => htold _ (Ssy.lookup_of hx)) ?_ _ _ _ _ ⟨by simp, by simp, hC, hD, rfl, rfl, ?_, ?_, ?_⟩)
  · intro a' w' hC' hD' hdef hsz hok
    have hall : ∀ d ∈ dsts, d < a.tmps.size := by
      intro d hd
      have h1 := List.all_eq_true.1 hd2 _ hd
      simp only [Bool.and_eq_true, decide_eq_true_eq] at h1
      exact h1.1
    have e : a' = Ssa.putAll a (dsts.map fun d => (d, a'.eval (.tmp d))) := by
      cases a' with
      | mk tmps' defers' =>
        unfold Ssa.putAll
        simp only [Act.mk.injEq]
        refine ⟨?_, hdef⟩
        apply Array.ext_getElem?
        intro t
        by_cases ht : t < a.tmps.size
        · have hsz' : tmps'.size = a.tmps.size := hsz
          have ht' : t < tmps'.size := by rw [hsz']; exact ht
          by_cases hd : t ∈ dsts
          · rw [Ssx.puts _ (fun d => ({ tmps := tmps', defers := defers' } : Act).eval (.tmp d)) dsts t hall hd]
            simp [Act.eval, ht']
          · rw [Ssa.putAll_other _ _ _ (by
              intro p hp e
              obtain ⟨e', he, rfl⟩ := List.mem_map.1 hp
              exact hd (e ▸ he))]
            have h1 := hok t ht
            unfold Ssx.ok at h1
            rw [hnot t hd, show dsts.contains t = false by simpa using hd] at h1
            simp [Act.eval, ht, ht'] at h1
            simp [ht, ht', h1]
        · have hsz' : tmps'.size = a.tmps.size := hsz
          rw [Array.getElem?_eq_none (by omega), Array.getElem?_eq_none (by rw [Ssa.putAll_size]; omega)]
    have hD2 := hD'
    rw [e] at hD2
    rw [e]
    refine hQ (fun d => a'.eval (.tmp d)) w' hC' hD2 fun p hp => ?_
    have hp1 := List.all_eq_true.1 hwr _ hp
    exact hok p.1 (hall _ (by simpa using hp1))
  · intro t ht hw
    have hun : ∀ (i : Nat) (o : Oper), i < m0 → l.toArray[i]? = some o → o.dst ≠ some t := by
      intro i o hi ho hd
      have := hw i o hi ho hd
      simp [Array.getElem?_replicate] at this
      split at this <;> simp_all
    have htd : t ∉ dsts := by
      intro h
      have h1 := List.all_eq_true.1 hd2 _ h
      simp only [Bool.and_eq_true] at h1
      obtain ⟨o, ho, he⟩ := List.any_eq_true.1 h1.2
      obtain ⟨i, hi, rfl⟩ := List.mem_iff_getElem.1 ho
      have hi2 : i < m0 ∧ i < l.length := by rw [List.length_take] at hi; omega
      exact hun i l[i] hi2.1 (by simp [hi2.2]) (by simpa using he)
    unfold Ssx.ok
    rw [hnot t htd, show dsts.contains t = false by simpa using htd]
  · intro j _
    simp [Array.getElem?_replicate]
    split <;> simp_all
  · intro k o ho hl
    simp [Array.getElem?_replicate] at hl
    split at hl <;> simp_all

/-- What the slots ps point to lies apart. -/
structure Apart (ps : List Nat) (a : Act) (w : World) : Prop where
  lt : ∀ s ∈ ps, ∀ x : Addr, a.eval (.tmp s) = .pointer (some x) → x.block < w.heap.size
  ne : ∀ s ∈ ps, ∀ t ∈ ps, s ≠ t → ∀ x y : Addr, a.eval (.tmp s) = .pointer (some x) → a.eval (.tmp t) = .pointer (some y) → x.block ≠ y.block
theorem Apart.put {ps : List Nat} {a : Act} {w w' : World} (h : Apart ps a w) (hs : w.heap.size ≤ w'.heap.size) {d : Option Nat} (hd : ∀ k, d = some k → k ∉ ps) (u : Value) : Apart ps (a.put d u) w' := by
  have e : ∀ s ∈ ps, (a.put d u).eval (.tmp s) = a.eval (.tmp s) := fun s hs' => Act.eval_put (by
    intro d' hd' he
    cases he
    exact hd _ hd' hs')
  refine ⟨fun s h1 x hx => ?_, fun s h1 t h2 hne x y hx hy => ?_⟩
  · rw [e s h1] at hx
    exact Nat.lt_of_lt_of_le (h.lt s h1 x hx) hs
  · rw [e s h1] at hx
    rw [e t h2] at hy
    exact h.ne s h1 t h2 hne x y hx hy
theorem Apart.new {ps : List Nat} {a : Act} {w w' : World} (h : Apart ps a w) {d : Nat} (hs : w.heap.size < w'.heap.size) : Apart ps (a.put (some d) (.pointer (some ⟨w.heap.size, 0, none⟩))) w' := by
  have e : ∀ s, s ≠ d → (a.put (some d) (.pointer (some ⟨w.heap.size, 0, none⟩))).eval (.tmp s) = a.eval (.tmp s) := fun s hs' => Act.eval_put (by
    intro d' hd' he
    cases he
    cases hd'
    exact hs' rfl)
  have e2 : ∀ x : Addr, (a.put (some d) (.pointer (some ⟨w.heap.size, 0, none⟩))).eval (.tmp d) = .pointer (some x) → x.block = w.heap.size := by
    intro x hx
    by_cases hd : d < a.tmps.size
    · simp [Act.put, Act.eval, hd] at hx
      rw [← hx]
    · simp [Act.put, Act.eval, hd, undef] at hx
  refine ⟨fun s h1 x hx => ?_, fun s h1 t h2 hne x y hx hy => ?_⟩
  · by_cases hsd : s = d
    · subst hsd
      rw [e2 x hx]; exact hs
    · rw [e s hsd] at hx
      exact Nat.lt_trans (h.lt s h1 x hx) hs
  · by_cases hsd : s = d
    · subst hsd
      have htd : t ≠ s := fun e => hne e.symm
      rw [e t htd] at hy
      have := h.lt t h2 y hy
      rw [e2 x hx]; omega
    · rw [e s hsd] at hx
      have h3 := h.lt s h1 x hx
      by_cases htd : t = d
      · subst htd
        rw [e2 y hy]; omega
      · rw [e t htd] at hy
        exact h.ne s h1 t h2 hne x y hx hy
/-- An operation that writes none of these slots. -/
theorem keep {ps : List Nat} {o : Oper} (h : Ssb.Good P C Ext Ok o) (hE : ∀ w w', Ext w w' → w.heap.size ≤ w'.heap.size) (hd : (match o.dst with | some d => !ps.contains d | none => true) = true) : GoodD P C (Apart ps) Ext Ok o :=
  good_lift h fun a w w' u hD he => hD.put (hE _ _ he) (fun k hk => by rw [hk] at hd; simpa using hd) u
/-- A new block of zeros. -/
theorem alloc {ps : List Nat} {o : Oper} {d : Nat} {ty : TypeId} {zs : List Value} (ho : o.op = .alloc ty) (hd : o.dst = some d) (hrun : ∀ w, (execOp (fun _ => undef) o).run P w = .ok (.value (.pointer (some ⟨w.heap.size, 0, none⟩))) (w.alloc (.cells zs.toArray ty)))
    (hC : ∀ w, C w → C (w.alloc (.cells zs.toArray ty))) (hE : ∀ w, Ext w (w.alloc (.cells zs.toArray ty))) (hOk : ∀ w, C w → Ok d (.pointer (some ⟨w.heap.size, 0, none⟩)) (w.alloc (.cells zs.toArray ty))) : GoodD P C (Apart ps) Ext Ok o := by
  intro a w hc hD hop
  have e : (execOp a.eval o).run P w = (execOp (fun _ => undef) o).run P w := by unfold execOp; simp only [ho]
  rw [e, hrun w]
  refine ⟨hC w hc, hE w, fun d' hd' => ?_, ?_⟩
  · rw [hd] at hd'
    obtain rfl := Option.some.inj hd'
    exact hOk w hc
  · rw [hd]
    exact hD.new (by show w.heap.size < (w.heap.push _).size; simp)
end
end Ssz
end Go.Proofs.Ytnmigdcedcmbkaa
