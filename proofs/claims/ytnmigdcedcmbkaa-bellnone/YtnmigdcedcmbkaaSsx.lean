/-
  A region that draws its order, told by predicates that outlast a relation of worlds of one's own (module Ssb has it for 'nothing old has turned'): for regions that write, and for regions behind which the walk goes on: the last frame is the first one with the region's own temporaries written.
-/
import Derived.Test.YtnmigdcedcmbkaaSsbOps
namespace Go.Proofs.Ytnmigdcedcmbkaa
open Go Go.RowKit
set_option linter.unusedVariables false
namespace Ssx

structure XP (Ext : World → World → Prop) where
  p : Value → World → Prop
  st : ∀ v w w', p v w → Ext w w' → p v w'
def cst {Ext : World → World → Prop} (x : Value) : XP Ext := ⟨fun v _ => v = x, fun _ _ _ h _ => h⟩
def nat (k : IntKind) (n : Nat) {Ext : World → World → Prop} : XP Ext := cst (.int k (n : Int))
/-- A new slice that holds these numbers. -/
def own (k : IntKind) (n : Nat) (xs : List Nat) : XP Old := ⟨fun v w => ∃ g, v = .slice (some ⟨g, 0, none⟩) n n ∧ Rd w (some ⟨g, 0, none⟩) (nums k xs), fun _ _ _ ⟨g, h1, h2⟩ o => ⟨g, h1, h2.mono o⟩⟩

section
variable {P : Program} {Q : Exit → Act → World → Prop} {C : World → Prop} {Ext : World → World → Prop} {Ok : Tmp → Value → World → Prop} {o : Oper} {d : Tmp}

/-- What is known of a temporary: its predicate, nothing (one that the region writes), or what it was. -/
def ok (a : Act) (dsts : List Nat) (wri : List (Nat × XP Ext)) (t : Tmp) (v : Value) (w : World) : Prop :=
  match wri.lookup t with
  | some q => q.p v w
  | none => match dsts.contains t with | true => True | false => v = a.eval (.tmp t)

theorem lookup_mem : ∀ {l : List (Nat × XP Ext)} {t : Nat} {q : XP Ext}, l.lookup t = some q → (t, q) ∈ l
  | [], _, _, h => by simp at h
  | (k, r) :: l, t, q, h => by
    rw [List.lookup_cons] at h
    split at h
    · rename_i e
      have : t = k := by simpa using e
      subst this
      simp at h
      simp [h]
    · exact List.mem_cons_of_mem _ (lookup_mem h)

theorem puts (t : Array Value) (vals : Nat → Value) : ∀ (ds : List Nat) (x : Nat), (∀ d ∈ ds, d < t.size) → x ∈ ds → ((ds.map fun d => (d, vals d)).foldl (fun t p => t.setIfInBounds p.1 p.2) t)[x]? = some (vals x) := by
  intro ds
  induction ds generalizing t with
  | nil => intro x _ h; simp at h
  | cons d ds ih =>
    intro x hl hx
    rw [List.map_cons, List.foldl_cons]
    by_cases hm : x ∈ ds
    · exact ih _ x (by simpa using fun e he => hl e (by simp [he])) hm
    · obtain rfl : x = d := by simpa [hm] using hx
      rw [Ssa.putAll_other]
      · have := hl x (by simp)
        simp [this]
      · intro p hp e
        obtain ⟨e', he, rfl⟩ := List.mem_map.1 hp
        exact hm (e ▸ he)

theorem region {id : Nat} {ops : List Oper} {a : Act} {w : World} (C : World → Prop) (dsts : List Nat) (wri : List (Nat × XP Ext)) (told : List (Tmp × Bool)) (hm : P.follows .mixedOrders = true) (hB : Ssa.okG ops.toArray [] [] = true)
    (hin : (ops.all (Ssb.inB a.tmps.size)) = true) (hgu : Ssb.guardsB ops.toArray a.tmps.size told = true) (htold : ∀ t b, (t, b) ∈ told → ∀ v w, ok a dsts wri t v w → v = .bool b)
    (hds : (ops.all fun o => match o.dst with | some d => dsts.contains d | none => true) = true) (hd2 : (dsts.all fun d => decide (d < a.tmps.size) && ops.any fun o => o.dst == some d) = true) (hwr : (wri.all fun p => dsts.contains p.1) = true)
    (hC : C (w.drewN 1))
    (hgood : Ssb.AllGood P C Ext (ok a dsts wri) ops)
    (hQ : ∀ (vals : Nat → Value) (w' : World), C w' → (∀ p ∈ wri, ok a dsts wri p.1 (vals p.1) w') → Q .normal (Ssa.putAll a (dsts.map fun d => (d, vals d))) w') : (Code.region id ops.toArray true).wp P Q a w := by
  have hst : ∀ t v w w', ok a dsts wri t v w → Ext w w' → ok a dsts wri t v w' := by
    intro t v w w' h e
    unfold ok at *
    cases hq : wri.lookup t with
    | some q => rw [hq] at h; exact q.st v w w' h e
    | none => rw [hq] at h; exact h
  have hnot : ∀ t, t ∉ dsts → wri.lookup t = none := by
    intro t ht
    cases hq : wri.lookup t with
    | none => rfl
    | some q =>
      have := List.all_eq_true.1 hwr _ (lookup_mem hq)
      exact absurd (by simpa using this) ht
  refine Ssb.region C Ext (ok a dsts wri) told hm hB hin hgu htold hst hC (fun t ht hun => ?_) hgood ?_
  · have htd : t ∉ dsts := by
      intro h
      have h1 := List.all_eq_true.1 hd2 _ h
      simp only [Bool.and_eq_true] at h1
      obtain ⟨o, ho, he⟩ := List.any_eq_true.1 h1.2
      obtain ⟨i, hi, rfl⟩ := List.mem_iff_getElem.1 ho
      exact hun i ops[i] (by simp [hi]) (by simpa using he)
    unfold ok
    rw [hnot t htd, show dsts.contains t = false by simpa using htd]
  · intro a' w' hC' hdef hsz hok
    have hall : ∀ d ∈ dsts, d < a.tmps.size := by
      intro d hd
      have h1 := List.all_eq_true.1 hd2 _ hd
      simp only [Bool.and_eq_true, decide_eq_true_eq] at h1
      exact h1.1
    have e : a' = Ssa.putAll a (dsts.map fun d => (d, a'.eval (.tmp d))) := by
      cases a' with
      | mk tmps' defers' =>
        unfold Ssa.putAll
        simp only [Act.mk.injEq]
        refine ⟨?_, hdef⟩
        apply Array.ext_getElem?
        intro t
        by_cases ht : t < a.tmps.size
        · have ht' : t < tmps'.size := by rw [hsz]; exact ht
          by_cases hd : t ∈ dsts
          · rw [puts _ (fun d => ({ tmps := tmps', defers := defers' } : Act).eval (.tmp d)) dsts t hall hd]
            simp [Act.eval, ht']
          · rw [Ssa.putAll_other _ _ _ (by
              intro p hp e
              obtain ⟨e', he, rfl⟩ := List.mem_map.1 hp
              exact hd (e ▸ he))]
            have h1 := hok t ht
            unfold ok at h1
            rw [hnot t hd, show dsts.contains t = false by simpa using hd] at h1
            simp [Act.eval, ht, ht'] at h1
            simp [ht, ht', h1]
        · have ht' : ¬ t < tmps'.size := by rw [hsz]; exact ht
          rw [Array.getElem?_eq_none (by omega), Array.getElem?_eq_none (by rw [Ssa.putAll_size]; omega)]
    rw [e]
    refine hQ (fun d => a'.eval (.tmp d)) w' hC' fun p hp => ?_
    have hp1 := List.all_eq_true.1 hwr _ hp
    exact hok p.1 (hall _ (by simpa using hp1))

/-- An operation that may change the world. -/
theorem step (hd : o.dst = some d) (h : ∀ (a : Act) (w : World), C w → (∀ t, Operand.tmp t ∈ o.op.operands → Ok t (a.eval (.tmp t)) w) → ∃ u w', (execOp a.eval o).run P w = .ok (.value u) w' ∧ C w' ∧ Ext w w' ∧ Ok d u w') : Ssb.Good P C Ext Ok o := by
  intro a w hC hop
  obtain ⟨u, w', h1, h2, h3, h4⟩ := h a w hC hop
  rw [h1]
  refine ⟨h2, h3, fun d' hd' => ?_⟩
  rw [hd] at hd'
  obtain rfl := Option.some.inj hd'
  exact h4
theorem val (hr : ∀ w, Ext w w) (hd : o.dst = some d) (h : ∀ (a : Act) (w : World), C w → (∀ t, Operand.tmp t ∈ o.op.operands → Ok t (a.eval (.tmp t)) w) → ∃ u, (execOp a.eval o).run P w = .ok (.value u) w ∧ Ok d u w) : Ssb.Good P C Ext Ok o :=
  step hd fun a w hC hop => by
    obtain ⟨u, h1, h2⟩ := h a w hC hop
    exact ⟨u, w, h1, hC, hr w, h2⟩
theorem mv (hr : ∀ w, Ext w w) {x : Tmp} (ho : o.op = .move (.tmp x)) (hd : o.dst = some d) (h : ∀ v w, Ok x v w → Ok d v w) : Ssb.Good P C Ext Ok o :=
  val hr hd fun a w hC hop => ⟨_, Ssa.run_mv ho rfl w, h _ _ (hop x (by rw [ho]; simp [Op.operands]))⟩
theorem asg (hr : ∀ w, Ext w w) {x : Tmp} (ho : o.op = .assign (.tmp x)) (hd : o.dst = some d) (h : ∀ v w, Ok x v w → Ok d v w) : Ssb.Good P C Ext Ok o :=
  val hr hd fun a w hC hop => ⟨_, Ssa.run_asg ho rfl w, h _ _ (hop x (by rw [ho]; simp [Op.operands]))⟩
/-- An operation on one temporary whose value is known, or on two. -/
theorem val1 (hr : ∀ w, Ext w w) {x : Tmp} {v : Value} (u : Value) (hx : Operand.tmp x ∈ o.op.operands) (hd : o.dst = some d) (hX : ∀ v w, Ok x v w → v = u) (hrun : ∀ ρ : Operand → Value, ρ (.tmp x) = u → (∀ c, ρ (.const c) = c) → ∀ w, (execOp ρ o).run P w = .ok (.value v) w) (h : ∀ w, Ok d v w) : Ssb.Good P C Ext Ok o :=
  val hr hd fun a w hC hop => ⟨v, hrun a.eval (hX _ _ (hop x hx)) (fun _ => rfl) w, h w⟩
theorem val2 (hr : ∀ w, Ext w w) {x y : Tmp} {v : Value} (u u' : Value) (hx : Operand.tmp x ∈ o.op.operands) (hy : Operand.tmp y ∈ o.op.operands) (hd : o.dst = some d) (hX : ∀ v w, Ok x v w → v = u) (hY : ∀ v w, Ok y v w → v = u') (hrun : ∀ ρ : Operand → Value, ρ (.tmp x) = u → ρ (.tmp y) = u' → (∀ c, ρ (.const c) = c) → ∀ w, (execOp ρ o).run P w = .ok (.value v) w) (h : ∀ w, Ok d v w) : Ssb.Good P C Ext Ok o :=
  val hr hd fun a w hC hop => ⟨v, hrun a.eval (hX _ _ (hop x hx)) (hY _ _ (hop y hy)) (fun _ => rfl) w, h w⟩
/-- 'a && b' behind a true a. -/
theorem and (hr : ∀ w, Ext w w) {c x : Tmp} {y : Operand} (ho : o.op = .pick (.tmp c) (.tmp x) y) (hd : o.dst = some d) (hc : ∀ v w, Ok c v w → v = .bool true) (h : ∀ v w, Ok x v w → Ok d v w) : Ssb.Good P C Ext Ok o :=
  val hr hd fun a w hC hop => ⟨_, Ssa.run_pick ho (hc _ _ (hop c (by rw [ho]; simp [Op.operands]))) rfl w, h _ _ (hop x (by rw [ho]; simp [Op.operands]))⟩
theorem run_pick_no {ρ : Operand → Value} {c x y : Operand} {v : Value} (ho : o.op = .pick c x y) (hc : ρ c = .bool false) (hx : ρ y = v) (w : World) : (execOp ρ o).run P w = .ok (.value v) w := by
  unfold execOp; rw [ho]; simp [hc, hx, go_sem]
/-- 'a || b' behind a false a. -/
theorem or (hr : ∀ w, Ext w w) {c y : Tmp} {x : Operand} (ho : o.op = .pick (.tmp c) x (.tmp y)) (hd : o.dst = some d) (hc : ∀ v w, Ok c v w → v = .bool false) (h : ∀ v w, Ok y v w → Ok d v w) : Ssb.Good P C Ext Ok o :=
  val hr hd fun a w hC hop => ⟨_, run_pick_no ho (hc _ _ (hop c (by rw [ho]; simp [Op.operands]))) rfl w, h _ _ (hop y (by rw [ho]; simp [Op.operands]))⟩
theorem whole (hr : ∀ w, Ext w w) {x : Tmp} {ty : TypeId} (ho : o.op = .load ty (.tmp x)) (hd : o.dst = some d) (b : Nat) (cs : List Value) (hx : ∀ v w, Ok x v w → v = .pointer (some ⟨b, 0, none⟩)) (hrg : ∀ w, C w → w.rangeAt b 0 cs) {td : TypeDesc}
    (hu : P.underlying ty = some td) (hrow : td.isRow = true) (hi : (P.info? ty).map (·.size) = some cs.length) (h : ∀ w, Ok d (.agg cs.toArray) w) : Ssb.Good P C Ext Ok o :=
  val hr hd fun a w hC hop => ⟨_, by
    have hv := hx _ _ (hop x (by rw [ho]; simp [Op.operands]))
    unfold execOp
    simp only [ho, hv, Sem.run_bind, Sem.run_pure, Result.andThen_ok, run_loadAt_mid w b 0 ty cs td (hrg w hC) hu hrow hi], h w⟩
theorem str (hr : ∀ w, Ext w w) {x : Tmp} {src dst e : TypeId} (ho : o.op = .convert src dst (.tmp x)) (hd : o.dst = some d) (hs : P.underlying src = some (.slice e)) (he : P.underlying e = some (.int .u8)) (hds : P.underlying dst = some .string)
    (hx : ∀ v w, C w → Ok x v w → ∃ a n cap xs, v = .slice a n cap ∧ xs.length = n ∧ Rd w a (nums .u8 xs) ∧ Ok d (.string (Ssb.bstr xs)) w) : Ssb.Good P C Ext Ok o :=
  val hr hd fun a w hC hop => by
    obtain ⟨ad, n, cap, xs, h1, h2, h3, h4⟩ := hx _ w hC (hop x (by rw [ho]; simp [Op.operands]))
    refine ⟨_, ?_, h4⟩
    unfold execOp
    simp only [ho, h1, Sem.run_bind, Sem.run_pure, Result.andThen_ok, Ssb.run_bstr hs he hds h2 h3]
theorem eqs (hr : ∀ w, Ext w w) {x y : Tmp} {ty u : TypeId} (ho : o.op = .binOp .eql ty (.tmp x) (.tmp y) u) (hd : o.dst = some d) (hu : P.underlying ty = some .string) (s : ByteArray) (hx : ∀ v w, Ok x v w → v = .string s) (hy : ∀ v w, Ok y v w → v = .string s)
    (h : ∀ w, Ok d (.bool true) w) : Ssb.Good P C Ext Ok o :=
  val hr hd fun a w hC hop => ⟨.bool true, by
    have h1 := hx _ _ (hop x (by rw [ho]; simp [Op.operands]))
    have h2 := hy _ _ (hop y (by rw [ho]; simp [Op.operands]))
    unfold execOp
    simp only [ho, h1, h2]
    simp [go_sem, eqGuard], h w⟩
theorem nes (hr : ∀ w, Ext w w) {x y : Tmp} {ty u : TypeId} (ho : o.op = .binOp .neq ty (.tmp x) (.tmp y) u) (hd : o.dst = some d) (hu : P.underlying ty = some .string) (s : ByteArray) (hx : ∀ v w, Ok x v w → v = .string s) (hy : ∀ v w, Ok y v w → v = .string s)
    (h : ∀ w, Ok d (.bool false) w) : Ssb.Good P C Ext Ok o :=
  val hr hd fun a w hC hop => ⟨.bool false, by
    have h1 := hx _ _ (hop x (by rw [ho]; simp [Op.operands]))
    have h2 := hy _ _ (hop y (by rw [ho]; simp [Op.operands]))
    unfold execOp
    simp only [ho, h1, h2]
    simp [go_sem, eqGuard], h w⟩
theorem eqa (hr : ∀ w, Ext w w) {x y : Tmp} {ty u : TypeId} (ho : o.op = .binOp .eql ty (.tmp x) (.tmp y) u) (hd : o.dst = some d) (hg : P.eqGuardType P.depth ty = false) (X : Array Value) (hx : ∀ v w, Ok x v w → v = .agg X) (hy : ∀ v w, Ok y v w → v = .agg X)
    (he : ∀ w, (Op.equalIn 10000 ty (.agg X) (.agg X)).run P w = .ok true w) (h : ∀ w, Ok d (.bool true) w) : Ssb.Good P C Ext Ok o :=
  val hr hd fun a w hC hop => ⟨.bool true, by
    have h1 := hx _ _ (hop x (by rw [ho]; simp [Op.operands]))
    have h2 := hy _ _ (hop y (by rw [ho]; simp [Op.operands]))
    unfold execOp
    simp only [ho, h1, h2, Sem.run_bind, run_eqGuard_agg w .eql ty _ _ X X hg, Result.andThen_ok, run_eql_struct w ty X X, he w, Sem.run_pure], h w⟩
theorem call (hd : o.dst = some d) (h : ∀ (a : Act) (w : World), C w → (∀ t, Operand.tmp t ∈ o.op.operands → Ok t (a.eval (.tmp t)) w) → ∃ f args, (execOp a.eval o).run P w = .ok (.enter f args) w ∧
      Calls P f args w fun e w' => ∃ u, e = .returned u ∧ C w' ∧ Ext w w' ∧ Ok d u w') : Ssb.Good P C Ext Ok o := by
  intro a w hC hop
  obtain ⟨f, args, h1, h2⟩ := h a w hC hop
  rw [h1]
  refine h2.mono ?_
  rintro e w' ⟨u, rfl, h3, h4, h5⟩
  refine ⟨u, rfl, h3, h4, fun d' hd' => ?_⟩
  rw [hd] at hd'
  obtain rfl := Option.some.inj hd'
  exact h5

/-- A whole array as a slice. -/
theorem run_all {t e : TypeId} {n : Nat} (hu : P.underlying t = some (.array n e)) (hi : (P.info? e).map (·.size) = some 1) (g : Nat) (w : World) :
    (Instr.sliceAt t (.pointer (some ⟨g, 0, none⟩)) none none none).run P w = .ok (.slice (some ⟨g, 0, none⟩) n n) w := by
  have hn : P.arrayLen t = n := by simp [Program.arrayLen, hu]
  have he : P.elem t = e := by simp [Program.elem, hu]
  cases hq : P.info? e with
  | none => simp [hq] at hi
  | some i =>
    have hsz : i.size = 1 := by simpa [hq] using hi
    simp [hu, sizeOf, typeInfo, hq, hsz, slicedAt, go_sem]
theorem all (hr : ∀ w, Ext w w) {x : Tmp} {t e : TypeId} {n : Nat} (ho : o.op = .slice t (.tmp x) none none none) (hd : o.dst = some d) (hu : P.underlying t = some (.array n e)) (hi : (P.info? e).map (·.size) = some 1) (g : Nat) (hx : ∀ v w, Ok x v w → v = .pointer (some ⟨g, 0, none⟩))
    (h : ∀ w, Ok d (.slice (some ⟨g, 0, none⟩) n n) w) : Ssb.Good P C Ext Ok o :=
  val hr hd fun a w hC hop => ⟨_, by
    have hv := hx _ _ (hop x (by rw [ho]; simp [Op.operands]))
    unfold execOp
    simp only [ho, hv, Option.map_none, Sem.run_bind, run_all hu hi g w, Result.andThen_ok, Sem.run_pure], h w⟩

/-- Block g alone may change; what it holds at last it keeps. -/
def Into (g : Nat) (t : TypeId) (vs : List Value) (w w' : World) : Prop := w.grownBy w' (some g) ∧ (Row w g t vs → Row w' g t vs)
theorem Into.refl (g : Nat) (t : TypeId) (vs : List Value) (w : World) : Into g t vs w w := ⟨grown_old (Old.refl w) _, id⟩
theorem Into.of_old {g : Nat} {t : TypeId} {vs : List Value} {w w' : World} (o : Old w w') : Into g t vs w w' := ⟨grown_old o _, fun h => h.mono o⟩
/-- Block g holds at last what it should. -/
def laid (g : Nat) (t : TypeId) (vs : List Value) : XP (Into g t vs) := ⟨fun _ w => Row w g t vs, fun _ _ _ h e => e.2 h⟩
/-- A new slice, not in block g. -/
def other (g : Nat) (t : TypeId) (vs : List Value) (k : IntKind) (n : Nat) (xs : List Nat) : XP (Into g t vs) :=
  ⟨fun v w => ∃ b, b ≠ g ∧ v = .slice (some ⟨b, 0, none⟩) n n ∧ Rd w (some ⟨b, 0, none⟩) (nums k xs), fun _ _ _ ⟨b, h0, h1, h2⟩ e => ⟨b, h0, h1, h2.grown e.1 fun x _ hx => by cases hx; exact h0⟩⟩

/-- What copy lays into a block that is known whole. -/
theorem run_into {dT sT ty e : TypeId} (hu : P.underlying dT = some (.slice e)) (hs : (P.info? e).map (·.size) = some 1) {k : IntKind} {g n cap m cap' : Nat} {t : TypeId} {zs xs : List Nat} {w : World} {a : Option Addr} (R : Row w g t (nums k zs)) (hz : zs.length = n) (hx : xs.length = m) (hm : m ≤ n) (h0 : 0 < m) (rd : Rd w a (nums k xs)) :
    (Builtin.copy_ #[dT, sT] ty #[.slice (some ⟨g, 0, none⟩) n cap, .slice a m cap']).run P w = .ok (goInt m) (w.setRow g (nums k (xs ++ zs.drop m)).toArray) := by
  obtain ⟨b, off, z, rfl, _, _⟩ := rd.num (i := 0) (by omega)
  have hl : (nums k xs).length = m := by rw [nums_length, hx]
  have hrun := run_copy_row P w dT sT ty e g 0 n cap ⟨b, off, none⟩ m cap' (nums k zs).toArray t (nums k xs) hu hs R (by rw [hl]; exact (Nat.min_eq_left hm).symm)
    (fun j v hj => by
      obtain ⟨b', off', ha, hc⟩ := rd j v hj
      obtain ⟨rfl, rfl⟩ : b = b' ∧ off = off' := by simpa using ha
      rw [Addr.add_lit]; exact hc) (by simp [nums_length, hl, hz, hm]) (nums_oneCell k xs)
  rw [hrun, hl]
  congr 3
  simp [nums, List.map_append, List.map_drop]
end
end Ssx
theorem Row.rngX {w : World} {g : Nat} {t : TypeId} {vs : List Value} (R : Row w g t vs) : w.rangeAt g 0 vs := fun j v hv => by rw [Nat.zero_add]; exact R.cell hv
end Go.Proofs.Ytnmigdcedcmbkaa
