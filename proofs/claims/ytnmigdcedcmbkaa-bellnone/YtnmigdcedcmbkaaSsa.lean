/-
  A region that draws its order, whose temporaries are each written once: whatever order is drawn, it ends in the frame that is told ahead, if each operation, run against that frame, yields what the frame says, in every world in which it may come up. Stores are numbered; the worlds are told by how many stores have come up.
-/
import Derived.Orders
import Derived.Deep.Draws
import Derived.KernelRfl
namespace Go.Proofs.Ytnmigdcedcmbkaa
open Go
set_option linter.unusedVariables false
namespace Ssa

section
variable {P : Program} {ops : Array Oper} {Q : Exit → Act → World → Prop} {af : Act} {C : Nat → World → Prop}

/-- The operation, run against the last frame in a world of class s, yields what that frame holds, and leaves a world of class s'. -/
def Good (P : Program) (af : Act) (C : Nat → World → Prop) (o : Oper) (s s' : Nat) : Prop :=
  ∀ w, C s w → match (execOp af.eval o).run P w with
    | .ok (.value u) w' => C s' w' ∧ ∀ d, o.dst = some d → af.tmps[d]? = some u
    | .ok .skip w' => C s' w' ∧ o.dst = none
    | .ok (.enter f args) w' => Calls P f args w' (fun e w'' => ∃ u, e = .returned u ∧ C s' w'' ∧ ∀ d, o.dst = some d → af.tmps[d]? = some u)
    | _ => False

/-- What is asked of operation number i. -/
def Asked (P : Program) (af : Act) (C : Nat → World → Prop) (ks early : List Nat) (i : Nat) (o : Oper) : Prop :=
  if ks.contains i then Good P af C o (ks.idxOf i) (ks.idxOf i + 1) else if early.contains i then Good P af C o 0 0 else ∀ s, s ≤ ks.length → Good P af C o s s

def AllAsked (P : Program) (af : Act) (C : Nat → World → Prop) (ks early : List Nat) : Nat → List Oper → Prop
  | _, [] => True
  | i, o :: l => Asked P af C ks early i o ∧ AllAsked P af C ks early (i + 1) l

theorem allAsked_at {ks early : List Nat} : ∀ (l : List Oper) (k : Nat), AllAsked P af C ks early k l → ∀ i o, l[i]? = some o → Asked P af C ks early (k + i) o
  | [], _, _, _, _, h => by simp at h
  | o :: l, k, h, 0, o', e => by
    simp at e; subst e; exact h.1
  | o :: l, k, h, i + 1, o', e => by
    have := allAsked_at l (k + 1) h.2 i o' (by simpa using e)
    rwa [show k + (i + 1) = k + 1 + i by omega]

def waits (o : Oper) (j : Nat) : Bool := o.after.any fun e => Region.binds .any e && e.on == j

theorem waits_edge {o : Oper} {j : Nat} (h : waits o j = true) : ∃ e ∈ o.after, Region.binds .any e = true ∧ e.on = j := by
  obtain ⟨e, he, hb⟩ := Array.any_eq_true'.1 h
  simp only [Bool.and_eq_true, beq_iff_eq] at hb
  exact ⟨e, he, hb.1, hb.2⟩

def opB (ops : Array Oper) (i : Nat) (o : Oper) : Bool :=
  (match o.op with | .select .. => false | _ => true) && o.guard.isNone && (o.after.all fun e => !Region.binds .any e || decide (e.on < i)) &&
  (o.op.operands.all fun x => match x with | .tmp t => (List.range ops.size).all fun j => (((ops[j]?).bind (·.dst)) != some t) || waits o j | _ => true)

/-- As opB, a guard let in: what it looks at is waited for. -/
def opG (ops : Array Oper) (i : Nat) (o : Oper) : Bool :=
  (match o.op with | .select .. => false | _ => true) && (match o.guard with | none => true | some (j, _) => match (ops[j]?).bind (·.dst) with | some t => (List.range ops.size).all fun k => (((ops[k]?).bind (·.dst)) != some t) || waits o k | none => false) && (o.after.all fun e => !Region.binds .any e || decide (e.on < i)) &&
  (o.op.operands.all fun x => match x with | .tmp t => (List.range ops.size).all fun j => (((ops[j]?).bind (·.dst)) != some t) || waits o j | _ => true)
def okG (ops : Array Oper) (ks early : List Nat) : Bool :=
  ((List.range ops.size).all fun i => match ops[i]? with | some o => opG ops i o | none => true) &&
  (ks.all fun k => match ops[k]? with | some o => early.all (fun i => waits o i) | none => false) &&
  ((List.range ks.length).all fun j => match ops[ks.getD j 0]? with | some o => (ks.take j).all fun k => waits o k | none => false)

/-- The one closed fact on the region. -/
def okB (ops : Array Oper) (ks early : List Nat) : Bool :=
  ((List.range ops.size).all fun i => match ops[i]? with | some o => opB ops i o | none => true) &&
  (ks.all fun k => match ops[k]? with | some o => early.all (fun i => waits o i) | none => false) &&
  ((List.range ks.length).all fun j => match ops[ks.getD j 0]? with | some o => (ks.take j).all fun k => waits o k | none => false)

structure Fits (ops : Array Oper) (ks early : List Nat) : Prop where
  sel : ∀ (i : Nat) (o : Oper), ops[i]? = some o → ∀ cs b, o.op ≠ .select cs b
  guard : ∀ (i : Nat) (o : Oper), ops[i]? = some o → o.guard = none ∨ ∃ (j : Nat) (b : Bool) (t : Tmp), o.guard = some (j, b) ∧ (ops[j]?).bind (·.dst) = some t ∧ ∀ (k : Nat) (o' : Oper), ops[k]? = some o' → o'.dst = some t → ∃ e ∈ o.after, Region.binds .any e = true ∧ e.on = k
  back : ∀ (i : Nat) (o : Oper), ops[i]? = some o → ∀ e ∈ o.after, Region.binds .any e = true → e.on < i
  data : ∀ (i : Nat) (o : Oper), ops[i]? = some o → ∀ t, Operand.tmp t ∈ o.op.operands → ∀ (j : Nat) (o' : Oper), ops[j]? = some o' → o'.dst = some t → ∃ e ∈ o.after, Region.binds .any e = true ∧ e.on = j
  early : ∀ k ∈ ks, ∀ i ∈ early, ∀ (o : Oper), ops[k]? = some o → ∃ e ∈ o.after, Region.binds .any e = true ∧ e.on = i
  chain : ∀ j, j < ks.length → ∀ k ∈ ks.take j, ∀ (o : Oper), ops[ks.getD j 0]? = some o → ∃ e ∈ o.after, Region.binds .any e = true ∧ e.on = k
  inR : ∀ k ∈ ks, ∃ o : Oper, ops[k]? = some o

theorem fits_of {ks early : List Nat} (h : okB ops ks early = true) : Fits ops ks early := by
  simp only [okB, Bool.and_eq_true, List.all_eq_true, List.mem_range] at h
  obtain ⟨⟨h1, h2⟩, h3⟩ := h
  have h1' : ∀ i o, ops[i]? = some o → opB ops i o = true := fun i o ho => by
    have := h1 i (Array.getElem?_eq_some_iff.1 ho).1
    simpa [ho] using this
  refine ⟨?_, ?_, ?_, ?_, ?_, ?_, ?_⟩
  · intro i o ho cs b e
    have := h1' i o ho
    simp [opB, e] at this
  · intro i o ho
    have := h1' i o ho
    simp only [opB, Bool.and_eq_true] at this
    exact .inl (by simpa using this.1.1.2)
  · intro i o ho e he hb
    have := h1' i o ho
    simp only [opB, Bool.and_eq_true] at this
    have h4 := Array.all_eq_true_iff_forall_mem.1 this.1.2 e he
    simpa [hb] using h4
  · intro i o ho t ht j o' ho' hd
    have := h1' i o ho
    simp only [opB, Bool.and_eq_true] at this
    have h4 := Array.all_eq_true_iff_forall_mem.1 this.2 _ ht
    simp only [List.all_eq_true, List.mem_range] at h4
    have h5 := h4 j (Array.getElem?_eq_some_iff.1 ho').1
    simp [ho', hd] at h5
    exact waits_edge h5
  · intro k hk i hi o ho
    have := h2 k hk
    simp only [ho, List.all_eq_true] at this
    exact waits_edge (this i hi)
  · intro j hj k hk o ho
    have := h3 j hj
    simp only [ho, List.all_eq_true] at this
    exact waits_edge (this k hk)
  · intro k hk
    have := h2 k hk
    cases ho : ops[k]? with
    | none => simp [ho] at this
    | some o => exact ⟨o, rfl⟩

theorem fits_ofG {ks early : List Nat} (h : okG ops ks early = true) : Fits ops ks early := by
  simp only [okG, Bool.and_eq_true, List.all_eq_true, List.mem_range] at h
  obtain ⟨⟨h1, h2⟩, h3⟩ := h
  have h1' : ∀ i o, ops[i]? = some o → opG ops i o = true := fun i o ho => by
    have := h1 i (Array.getElem?_eq_some_iff.1 ho).1
    simpa [ho] using this
  refine ⟨?_, ?_, ?_, ?_, ?_, ?_, ?_⟩
  · intro i o ho cs b e
    have := h1' i o ho
    simp [opG, e] at this
  · intro i o ho
    have := h1' i o ho
    simp only [opG, Bool.and_eq_true] at this
    have h4 := this.1.1.2
    cases hg : o.guard with
    | none => exact .inl rfl
    | some jb =>
      obtain ⟨j, b⟩ := jb
      rw [hg] at h4
      cases hd : (ops[j]?).bind (·.dst) with
      | none => simp [hd] at h4
      | some t =>
        simp only [hd, List.all_eq_true, List.mem_range] at h4
        refine .inr ⟨j, b, t, rfl, hd, fun k o' ho' hd' => ?_⟩
        have h5 := h4 k (Array.getElem?_eq_some_iff.1 ho').1
        simp [ho', hd'] at h5
        exact waits_edge h5
  · intro i o ho e he hb
    have := h1' i o ho
    simp only [opG, Bool.and_eq_true] at this
    have h4 := Array.all_eq_true_iff_forall_mem.1 this.1.2 e he
    simpa [hb] using h4
  · intro i o ho t ht j o' ho' hd
    have := h1' i o ho
    simp only [opG, Bool.and_eq_true] at this
    have h4 := Array.all_eq_true_iff_forall_mem.1 this.2 _ ht
    simp only [List.all_eq_true, List.mem_range] at h4
    have h5 := h4 j (Array.getElem?_eq_some_iff.1 ho').1
    simp [ho', hd] at h5
    exact waits_edge h5
  · intro k hk i hi o ho
    have := h2 k hk
    simp only [ho, List.all_eq_true] at this
    exact waits_edge (this i hi)
  · intro j hj k hk o ho
    have := h3 j hj
    simp only [ho, List.all_eq_true] at this
    exact waits_edge (this k hk)
  · intro k hk
    have := h2 k hk
    cases ho : ops[k]? with
    | none => simp [ho] at this
    | some o => exact ⟨o, rfl⟩

theorem okB_guard {ks early : List Nat} (h : okB ops ks early = true) (i : Nat) (o : Oper) (ho : ops[i]? = some o) : o.guard = none := by
  simp only [okB, Bool.and_eq_true, List.all_eq_true, List.mem_range] at h
  have := h.1.1 i (Array.getElem?_eq_some_iff.1 ho).1
  simp only [ho, opB, Bool.and_eq_true] at this
  simpa using this.1.1.2

def cnt (ks : List Nat) (listed : Array Bool) : Nat := ks.countP fun k => listed.getD k false

structure Inv (ops : Array Oper) (af : Act) (C : Nat → World → Prop) (ks : List Nat) (fuel : Nat) (listed : Array Bool) (a : Act) (w : World) : Prop where
  size : listed.size = ops.size
  left : listed.toList.count false = fuel
  closed : ∀ j o, ops[j]? = some o → listed.getD j false = true → ∀ e ∈ o.after, Region.binds .any e = true → listed.getD e.on false = true
  world : C (cnt ks listed) w
  defers : a.defers = af.defers
  slots : a.tmps.size = af.tmps.size
  holds : ∀ t, (∀ i o, ops[i]? = some o → o.dst = some t → listed.getD i false = true) → a.tmps[t]? = af.tmps[t]?

theorem getD_true {listed : Array Bool} {i : Nat} (h : listed.getD i true = false) : i < listed.size ∧ listed[i]? = some false := by
  rcases Nat.lt_or_ge i listed.size with h' | h'
  · simp [h'] at h
    exact ⟨h', by simp [h', h]⟩
  · simp [Array.getElem?_eq_none h'] at h

theorem count_set {l : List Bool} {i : Nat} (h : l[i]? = some false) : (l.set i true).count false + 1 = l.count false := by
  induction l generalizing i with
  | nil => simp at h
  | cons b l ih =>
    cases i with
    | zero => simp at h; subst h; simp
    | succ i =>
      have := ih (i := i) (by simpa using h)
      cases b <;> simp <;> omega

theorem cnt_all {ks : List Nat} {listed : Array Bool} (h : ∀ k ∈ ks, listed.getD k false = true) : cnt ks listed = ks.length := List.countP_eq_length.2 h
theorem cnt_none {ks : List Nat} {listed : Array Bool} (h : ∀ k ∈ ks, listed.getD k false = false) : cnt ks listed = 0 := by
  unfold cnt
  rw [List.countP_eq_zero]
  intro k hk; rw [h k hk]; simp

theorem getD_set {listed : Array Bool} {i j : Nat} : (listed.setIfInBounds i true).getD j false = true ↔ (listed.getD j false = true ∨ (i = j ∧ j < listed.size)) := by
  simp only [Array.getD_eq_getD_getElem?, Array.getElem?_setIfInBounds]
  by_cases h : i = j
  · subst h
    by_cases h' : i < listed.size <;> simp [h']
  · simp [h]

theorem cnt_set_other {ks : List Nat} {listed : Array Bool} {i : Nat} (h : i ∉ ks) : cnt ks (listed.setIfInBounds i true) = cnt ks listed := by
  unfold cnt
  refine List.countP_congr fun k hk => ?_
  rw [getD_set]
  constructor
  · rintro (h' | ⟨rfl, _⟩)
    · exact h'
    · exact absurd hk h
  · exact Or.inl

theorem split_at {ks : List Nat} {i : Nat} (h : i ∈ ks) : ks.idxOf i < ks.length ∧ ks.getD (ks.idxOf i) 0 = i ∧ ks = ks.take (ks.idxOf i) ++ i :: ks.drop (ks.idxOf i + 1) := by
  have h1 := List.idxOf_lt_length_of_mem h
  have h2 : ks[ks.idxOf i] = i := List.getElem_idxOf h1
  refine ⟨h1, by simp [h1, h2], ?_⟩
  conv => lhs; rw [← List.take_append_drop (ks.idxOf i) ks, List.drop_eq_getElem_cons h1, h2]

/-- Store number j comes up: just those before it have come up. -/
theorem cnt_at {ks early : List Nat} (F : Fits ops ks early) {listed : Array Bool} {i : Nat} {o : Oper} (hsz : listed.size = ops.size) (hk : i ∈ ks) (ho : ops[i]? = some o)
    (closed : ∀ j o, ops[j]? = some o → listed.getD j false = true → ∀ e ∈ o.after, Region.binds .any e = true → listed.getD e.on false = true)
    (hun : listed.getD i true = false) (hall : ∀ e ∈ o.after, Region.binds .any e = true → listed.getD e.on false = true) :
    cnt ks listed = ks.idxOf i ∧ cnt ks (listed.setIfInBounds i true) = ks.idxOf i + 1 := by
  obtain ⟨h1, h2, h3⟩ := split_at hk
  obtain ⟨hlt, hli⟩ := getD_true hun
  have hif : listed.getD i false = false := by simp [hlt] at hun ⊢; exact hun
  have hb : ∀ k ∈ ks.take (ks.idxOf i), listed.getD k false = true := fun k hk' => by
    obtain ⟨e, he, hb, rfl⟩ := F.chain _ h1 k hk' o (by rw [h2]; exact ho)
    exact hall e he hb
  have ha : ∀ k ∈ ks.drop (ks.idxOf i + 1), listed.getD k false = false ∧ k ≠ i := fun k hk' => by
    obtain ⟨m, hm, rfl⟩ := List.mem_iff_getElem.1 hk'
    simp only [List.length_drop] at hm
    have hm' : ks.idxOf i + 1 + m < ks.length := by omega
    simp only [List.getElem_drop]
    have hg : ks.getD (ks.idxOf i + 1 + m) 0 = ks[ks.idxOf i + 1 + m] := by simp [hm']
    obtain ⟨o', ho'⟩ := F.inR ks[ks.idxOf i + 1 + m] (List.getElem_mem hm')
    have hmem : i ∈ ks.take (ks.idxOf i + 1 + m) := by
      refine List.mem_iff_getElem.2 ⟨ks.idxOf i, by simp; omega, ?_⟩
      simp only [List.getElem_take]
      exact List.getElem_idxOf h1
    obtain ⟨e, he, hb, hei⟩ := F.chain _ hm' i hmem o' (by rw [hg]; exact ho')
    refine ⟨?_, ?_⟩
    · cases hc : listed.getD ks[ks.idxOf i + 1 + m] false with
      | false => rfl
      | true =>
        have := closed _ o' ho' hc e he hb
        rw [hei, hif] at this
        cases this
    · intro e'
      have := F.back _ o' ho' e he hb
      omega
  have hc1 : ∀ l : Array Bool, cnt ks l = cnt (ks.take (ks.idxOf i)) l + (if l.getD i false then 1 else 0) + cnt (ks.drop (ks.idxOf i + 1)) l := fun l => by
    unfold cnt
    conv => lhs; rw [h3]
    simp only [List.countP_append, List.countP_cons]
    omega
  have hb' : ∀ k ∈ ks.take (ks.idxOf i), (listed.setIfInBounds i true).getD k false = true := fun k hk' => getD_set.2 (Or.inl (hb k hk'))
  have ha' : ∀ k ∈ ks.drop (ks.idxOf i + 1), (listed.setIfInBounds i true).getD k false = false := fun k hk' => by
    cases hc : (listed.setIfInBounds i true).getD k false with
    | false => rfl
    | true =>
      rcases getD_set.1 hc with h' | ⟨h', _⟩
      · rw [(ha k hk').1] at h'; cases h'
      · exact absurd h'.symm (ha k hk').2
  have hi' : (listed.setIfInBounds i true).getD i false = true := getD_set.2 (Or.inr ⟨rfl, hlt⟩)
  constructor
  · rw [hc1, cnt_all hb, cnt_none fun k hk' => (ha k hk').1, hif]
    simp; omega
  · rw [hc1, cnt_all hb', cnt_none ha', hi']
    simp; omega

theorem all_listed {ks early : List Nat} (F : Fits ops ks early) {listed : Array Bool} (hsz : listed.size = ops.size) (h : Region.ready .any ops listed = []) : ∀ i o, ops[i]? = some o → listed.getD i false = true := by
  intro i
  induction i using Nat.strongRecOn with
  | _ i ih =>
    intro o ho
    have hlt : i < listed.size := by rw [hsz]; exact (Array.getElem?_eq_some_iff.1 ho).1
    cases hc : listed.getD i false with
    | true => rfl
    | false =>
      have hm : i ∈ Region.ready .any ops listed := mem_ready.2 ⟨by simp [hlt] at hc ⊢; exact hc, o, ho, fun e he hb => by
        have hl := F.back i o ho e he hb
        have : e.on < ops.size := by have := (Array.getElem?_eq_some_iff.1 ho).1; omega
        exact ih e.on hl ops[e.on] (by simp [this])⟩
      rw [h] at hm
      cases hm

theorem act_eq {a b : Act} (h1 : a.tmps = b.tmps) (h2 : a.defers = b.defers) : a = b := by
  cases a; cases b; simp_all

theorem walk {ks early : List Nat} (F : Fits ops ks early) (hgd : ∀ (i : Nat) (o : Oper), ops[i]? = some o → Region.wanted o (yielded ops af.tmps) = true) (hask : ∀ i o, ops[i]? = some o → Asked P af C ks early i o) (hQ : ∀ w, C ks.length w → Q .normal af w) :
    ∀ (fuel : Nat) (listed : Array Bool) (a : Act) (w : World), Inv ops af C ks fuel listed a w → wpAny P .any ops Q fuel listed a w := by
  have fin : ∀ (fuel : Nat) (listed : Array Bool) (a : Act) (w : World), Inv ops af C ks fuel listed a w → Region.ready .any ops listed = [] → Q .normal a w := by
    intro fuel listed a w I hr
    have hall := all_listed F I.size hr
    have he : a = af := act_eq (Array.ext_getElem? fun t => I.holds t fun i o ho _ => hall i o ho) I.defers
    rw [he]
    refine hQ w ?_
    have := I.world
    rwa [cnt_all fun k hk => by obtain ⟨o, ho⟩ := F.inR k hk; exact hall k o ho] at this
  intro fuel
  induction fuel with
  | zero =>
    intro listed a w I
    have hr : Region.ready .any ops listed = [] := by
      cases hc : Region.ready .any ops listed with
      | nil => rfl
      | cons i l =>
        have hm : i ∈ Region.ready .any ops listed := by rw [hc]; simp
        obtain ⟨_, hf⟩ := getD_true (mem_ready.1 hm).1
        have h0 := I.left
        rw [List.count_eq_zero] at h0
        exact absurd (List.mem_of_getElem? (by simpa using hf)) h0
    exact ⟨hr, fin _ _ _ _ I hr⟩
  | succ fuel ih =>
    intro listed a w I
    refine ⟨fin _ _ _ _ I, fun i hi => ?_⟩
    obtain ⟨hun, o, ho, hall⟩ := mem_ready.1 hi
    obtain ⟨hlt, hf⟩ := getD_true hun
    have hif : listed.getD i false = false := by simp [hlt] at hun ⊢; exact hun
    have hops : ∀ x ∈ o.op.operands, a.eval x = af.eval x := by
      intro x hx
      cases x with
      | tmp t =>
        have := I.holds t fun j o' ho' hd => by
          obtain ⟨e, he, hb, rfl⟩ := F.data i o ho t hx j o' ho' hd
          exact hall e he hb
        simp [Act.eval, this]
      | _ => rfl
    have hex : execOp a.eval o = execOp af.eval o := execOp_congr o (F.sel i o ho) hops
    -- what the operation does, whichever its kind
    have key : ∃ s', Good P af C o (cnt ks listed) s' ∧ s' = cnt ks (listed.setIfInBounds i true) := by
      have ha := hask i o ho
      unfold Asked at ha
      by_cases hk : i ∈ ks
      · rw [if_pos (by simpa using hk)] at ha
        obtain ⟨e1, e2⟩ := cnt_at F I.size hk ho I.closed hun hall
        exact ⟨_, by rw [e1]; exact ha, e2.symm⟩
      · rw [if_neg (by simpa using hk)] at ha
        rw [cnt_set_other hk]
        by_cases he : i ∈ early
        · rw [if_pos (by simpa using he)] at ha
          have h0 : cnt ks listed = 0 := cnt_none fun k hk' => by
            cases hc : listed.getD k false with
            | false => rfl
            | true =>
              obtain ⟨o', ho'⟩ := F.inR k hk'
              obtain ⟨e, he', hb, hei⟩ := F.early k hk' i he o' ho'
              have := I.closed k o' ho' hc e he' hb
              rw [hei, hif] at this
              cases this
          rw [h0]; exact ⟨_, ha, rfl⟩
        · rw [if_neg (by simpa using he)] at ha
          exact ⟨_, ha _ List.countP_le_length, rfl⟩
    obtain ⟨s', hg, hs'⟩ := key
    have hg := hg w I.world
    have next : ∀ (u : Value) (w' : World), C s' w' → (∀ d, o.dst = some d → af.tmps[d]? = some u) → Inv ops af C ks fuel (listed.setIfInBounds i true) (a.put o.dst u) w' := by
      intro u w' hC hd
      have hput : (a.put o.dst u).tmps.size = a.tmps.size ∧ (a.put o.dst u).defers = a.defers := by
        cases hdst : o.dst <;> simp [Act.put]
      refine ⟨by simpa using I.size, ?_, ?_, by rw [← hs']; exact hC, hput.2.trans I.defers, hput.1.trans I.slots, ?_⟩
      · have := count_set (l := listed.toList) (i := i) (by simpa using hf)
        have h0 := I.left
        simp only [Array.toList_setIfInBounds]
        omega
      · intro j o' ho' hl e he hb
        rcases getD_set.1 hl with h' | ⟨rfl, _⟩
        · exact getD_set.2 (Or.inl (I.closed j o' ho' h' e he hb))
        · rw [ho] at ho'
          obtain rfl := Option.some.inj ho'
          exact getD_set.2 (Or.inl (hall e he hb))
      · intro t ht
        have hold : o.dst ≠ some t → a.tmps[t]? = af.tmps[t]? := fun hne => I.holds t fun j o' ho' hd' => by
          rcases getD_set.1 (ht j o' ho' hd') with h' | ⟨rfl, _⟩
          · exact h'
          · rw [ho] at ho'
            obtain rfl := Option.some.inj ho'
            exact absurd hd' hne
        cases hdst : o.dst with
        | none => simp only [Act.put]; exact hold (by rw [hdst]; simp)
        | some d =>
          simp only [Act.put, Array.getElem?_setIfInBounds]
          by_cases hdt : d = t
          · subst hdt
            have hv := hd d hdst
            have hds : d < a.tmps.size := by rw [I.slots]; exact (Array.getElem?_eq_some_iff.1 hv).1
            simp [hds, hv]
          · simp only [hdt, if_false]
            exact hold (by rw [hdst]; simpa using hdt)
    unfold wpOp
    have hw : Region.wanted o (yielded ops a.tmps) = true := by
      rcases F.guard i o ho with h0 | ⟨j, b, t, h0, hd, hwr⟩
      · simp [Region.wanted, h0]
      · have h1 := hgd i o ho
        have h2 : a.tmps[t]? = af.tmps[t]? := I.holds t fun k o' ho' hd' => by
          obtain ⟨e, he, hb, rfl⟩ := hwr k o' ho' hd'
          exact hall e he hb
        rw [← h1]
        simp only [Region.wanted, h0, yielded, hd, Option.bind_some, h2]
    simp only [ho, hw, if_true]
    refine .inl ?_
    unfold Oper.wp
    rw [hex]
    generalize (execOp af.eval o).run P w = r at hg
    cases r with
    | ok n w' =>
      cases n with
      | value u => exact ih _ _ _ (next u w' hg.1 hg.2)
      | skip =>
        refine ih _ _ _ (next undef w' hg.1 fun d hd => ?_)
        rw [hg.2] at hd; cases hd
      | enter f args =>
        refine Calls.mono hg fun e w'' he => ?_
        obtain ⟨u, rfl, hC, hd⟩ := he
        exact ih _ _ _ (next u w'' hC hd)
      | _ => exact hg.elim
    | halt x w' => exact hg.elim

/-- A region of temporaries that are written once. -/
theorem region {id : Nat} {l : List Oper} {a : Act} {w : World} (ks early : List Nat) (af : Act) (C : Nat → World → Prop) (hm : P.follows .mixedOrders = true) (hB : okB l.toArray ks early = true)
    (hC : C 0 (w.drewN 1)) (hd : a.defers = af.defers) (hs : a.tmps.size = af.tmps.size)
    (ha : ∀ t, (∀ (i : Nat) (o : Oper), l.toArray[i]? = some o → o.dst ≠ some t) → a.tmps[t]? = af.tmps[t]?)
    (hask : AllAsked P af C ks early 0 l) (hQ : ∀ w, C ks.length w → Q .normal af w) : (Code.region id l.toArray true).wp P Q a w := by
  have F := fits_of hB
  refine wp_region_any hm (walk F (fun i o ho => by
    rcases F.guard i o ho with h0 | ⟨j, b, t, h0, _⟩
    · simp [Region.wanted, h0]
    · have := okB_guard hB i o ho; rw [this] at h0; cases h0) (fun i o ho => ?_) hQ _ _ _ _ ⟨by simp, by simp, ?_, ?_, hd, hs, ?_⟩)
  · have := allAsked_at l 0 hask i o (by simpa using ho)
    simpa using this
  · intro j o ho hl
    simp [Array.getElem?_replicate] at hl
    split at hl <;> simp_all
  · have : cnt ks (Array.replicate l.toArray.size false) = 0 := cnt_none fun k hk => by
      simp [Array.getElem?_replicate]
      split <;> simp_all
    rw [this]; exact hC
  · intro t ht
    refine ha t fun i o ho hd' => ?_
    have := ht i o ho hd'
    simp [Array.getElem?_replicate] at this
    split at this <;> simp_all

/-- The same, with guards that the last frame tells to be met. -/
theorem regionG {id : Nat} {l : List Oper} {a : Act} {w : World} (ks early : List Nat) (af : Act) (C : Nat → World → Prop) (hm : P.follows .mixedOrders = true) (hB : okG l.toArray ks early = true) (hgd : (l.all fun o => Region.wanted o (yielded l.toArray af.tmps)) = true)
    (hC : C 0 (w.drewN 1)) (hd : a.defers = af.defers) (hs : a.tmps.size = af.tmps.size)
    (ha : ∀ t, (∀ (i : Nat) (o : Oper), l.toArray[i]? = some o → o.dst ≠ some t) → a.tmps[t]? = af.tmps[t]?)
    (hask : AllAsked P af C ks early 0 l) (hQ : ∀ w, C ks.length w → Q .normal af w) : (Code.region id l.toArray true).wp P Q a w := by
  have F := fits_ofG hB
  refine wp_region_any hm (walk F (fun i o ho => List.all_eq_true.1 hgd o (List.mem_of_getElem? (by simpa using ho))) (fun i o ho => ?_) hQ _ _ _ _ ⟨by simp, by simp, ?_, ?_, hd, hs, ?_⟩)
  · have := allAsked_at l 0 hask i o (by simpa using ho)
    simpa using this
  · intro j o ho hl
    simp [Array.getElem?_replicate] at hl
    split at hl <;> simp_all
  · have : cnt ks (Array.replicate l.toArray.size false) = 0 := cnt_none fun k hk => by
      simp [Array.getElem?_replicate]
      split <;> simp_all
    rw [this]; exact hC
  · intro t ht
    refine ha t fun i o ho hd' => ?_
    have := ht i o ho hd'
    simp [Array.getElem?_replicate] at this
    split at this <;> simp_all
end
end Ssa
end Go.Proofs.Ytnmigdcedcmbkaa
