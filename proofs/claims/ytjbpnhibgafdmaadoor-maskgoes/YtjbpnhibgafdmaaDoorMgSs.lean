/-
  MgSs: 3 parts, one behind the other; what each proves, and under which conditions, its own heading says.
-/
import Derived.Test.YtjbpnhibgafdmaaDoorSsbOps

/-
  A region that draws its order, told by predicates that outlast a relation of worlds of one's own (module Ssb has it for 'nothing old has turned'): for regions that write, and for regions behind which the walk goes on: the last frame is the first one with the region's own temporaries written.
-/
namespace Go.Proofs.YtjbpnhibgafdmaaDoor
open Go Go.RowKit
set_option linter.unusedVariables false
namespace Ssx

structure XP (Ext : World → World → Prop) where
  p : Value → World → Prop
  st : ∀ v w w', p v w → Ext w w' → p v w'
def cst {Ext : World → World → Prop} (x : Value) : XP Ext := ⟨fun v _ => v = x, fun _ _ _ h _ => h⟩
def nat (k : IntKind) (n : Nat) {Ext : World → World → Prop} : XP Ext := cst (.int k (n : Int))
/-- A new slice that holds these numbers. -/
def own (k : IntKind) (n : Nat) (xs : List Nat) : XP Old := ⟨fun v w => ∃ g, v = .slice (some ⟨g, 0, none⟩) n n ∧ Rd w (some ⟨g, 0, none⟩) (nums k xs), fun _ _ _ ⟨g, h1, h2⟩ o => ⟨g, h1, h2.mono o⟩⟩

section
variable {P : Program} {Q : Exit → Act → World → Prop} {C : World → Prop} {Ext : World → World → Prop} {Ok : Tmp → Value → World → Prop} {o : Oper} {d : Tmp}

/-- What is known of a temporary: its predicate, nothing (one that the region writes), or what it was. -/
def ok (a : Act) (dsts : List Nat) (wri : List (Nat × XP Ext)) (t : Tmp) (v : Value) (w : World) : Prop :=
  match wri.lookup t with
  | some q => q.p v w
  | none => match dsts.contains t with | true => True | false => v = a.eval (.tmp t)

theorem lookup_mem : ∀ {l : List (Nat × XP Ext)} {t : Nat} {q : XP Ext}, l.lookup t = some q → (t, q) ∈ l
  | [], _, _, h => by simp at h
  | (k, r) :: l, t, q, h => by
    rw [List.lookup_cons] at h
    split at h
    · rename_i e
      have : t = k := by simpa using e
      subst this
      simp at h
      simp [h]
    · exact List.mem_cons_of_mem _ (lookup_mem h)

theorem puts (t : Array Value) (vals : Nat → Value) : ∀ (ds : List Nat) (x : Nat), (∀ d ∈ ds, d < t.size) → x ∈ ds → ((ds.map fun d => (d, vals d)).foldl (fun t p => t.setIfInBounds p.1 p.2) t)[x]? = some (vals x) := by
  intro ds
  induction ds generalizing t with
  | nil => intro x _ h; simp at h
  | cons d ds ih =>
    intro x hl hx
    rw [List.map_cons, List.foldl_cons]
    by_cases hm : x ∈ ds
    · exact ih _ x (by simpa using fun e he => hl e (by simp [he])) hm
    · obtain rfl : x = d := by simpa [hm] using hx
      rw [Ssa.putAll_other]
      · have := hl x (by simp)
        simp [this]
      · intro p hp e
        obtain ⟨e', he, rfl⟩ := List.mem_map.1 hp
        exact hm (e ▸ he)

theorem region {id : Nat} {ops : List Oper} {a : Act} {w : World} (C : World → Prop) (dsts : List Nat) (wri : List (Nat × XP Ext)) (told : List (Tmp × Bool)) (hm : P.follows .mixedOrders = true) (hB : Ssa.okG ops.toArray [] [] = true)
    (hin : (ops.all (Ssb.inB a.tmps.size)) = true) (hgu : Ssb.guardsB ops.toArray a.tmps.size told = true) (htold : ∀ t b, (t, b) ∈ told → ∀ v w, ok a dsts wri t v w → v = .bool b)
    (hds : (ops.all fun o => match o.dst with | some d => dsts.contains d | none => true) = true) (hd2 : (dsts.all fun d => decide (d < a.tmps.size) && ops.any fun o => o.dst == some d) = true) (hwr : (wri.all fun p => dsts.contains p.1) = true)
    (hC : C (w.drewN 1))
    (hgood : Ssb.AllGood P C Ext (ok a dsts wri) ops)
    (hQ : ∀ (vals : Nat → Value) (w' : World), C w' → (∀ p ∈ wri, ok a dsts wri p.1 (vals p.1) w') → Q .normal (Ssa.putAll a (dsts.map fun d => (d, vals d))) w') : (Code.region id ops.toArray true).wp P Q a w := by
  have hst : ∀ t v w w', ok a dsts wri t v w → Ext w w' → ok a dsts wri t v w' := by
    intro t v w w' h e
    unfold ok at *
    cases hq : wri.lookup t with
    | some q => rw [hq] at h; exact q.st v w w' h e
    | none => rw [hq] at h; exact h
  have hnot : ∀ t, t ∉ dsts → wri.lookup t = none := by
    intro t ht
    cases hq : wri.lookup t with
    | none => rfl
    | some q =>
      have := List.all_eq_true.1 hwr _ (lookup_mem hq)
      exact absurd (by simpa using this) ht
  refine Ssb.region C Ext (ok a dsts wri) told hm hB hin hgu htold hst hC (fun t ht hun => ?_) hgood ?_
  · have htd : t ∉ dsts := by
      intro h
      have h1 := List.all_eq_true.1 hd2 _ h
      simp only [Bool.and_eq_true] at h1
      obtain ⟨o, ho, he⟩ := List.any_eq_true.1 h1.2
      obtain ⟨i, hi, rfl⟩ := List.mem_iff_getElem.1 ho
      exact hun i ops[i] (by simp [hi]) (by simpa using he)
    unfold ok
    rw [hnot t htd, show dsts.contains t = false by simpa using htd]
  · intro a' w' hC' hdef hsz hok
    have hall : ∀ d ∈ dsts, d < a.tmps.size := by
      intro d hd
      have h1 := List.all_eq_true.1 hd2 _ hd
      simp only [Bool.and_eq_true, decide_eq_true_eq] at h1
      exact h1.1
    have e : a' = Ssa.putAll a (dsts.map fun d => (d, a'.eval (.tmp d))) := by
      cases a' with
      | mk tmps' defers' =>
        unfold Ssa.putAll
        simp only [Act.mk.injEq]
        refine ⟨?_, hdef⟩
        apply Array.ext_getElem?
        intro t
        by_cases ht : t < a.tmps.size
        · have ht' : t < tmps'.size := by rw [hsz]; exact ht
          by_cases hd : t ∈ dsts
          · rw [puts _ (fun d => ({ tmps := tmps', defers := defers' } : Act).eval (.tmp d)) dsts t hall hd]
            simp [Act.eval, ht']
          · rw [Ssa.putAll_other _ _ _ (by
              intro p hp e
              obtain ⟨e', he, rfl⟩ := List.mem_map.1 hp
              exact hd (e ▸ he))]
            have h1 := hok t ht
            unfold ok at h1
            rw [hnot t hd, show dsts.contains t = false by simpa using hd] at h1
            simp [Act.eval, ht, ht'] at h1
            simp [ht, ht', h1]
        · have ht' : ¬ t < tmps'.size := by rw [hsz]; exact ht
          rw [Array.getElem?_eq_none (by omega), Array.getElem?_eq_none (by rw [Ssa.putAll_size]; omega)]
    rw [e]
    refine hQ (fun d => a'.eval (.tmp d)) w' hC' fun p hp => ?_
    have hp1 := List.all_eq_true.1 hwr _ hp
    exact hok p.1 (hall _ (by simpa using hp1))

/-- An operation that may change the world. -/
theorem step (hd : o.dst = some d) (h : ∀ (a : Act) (w : World), C w → (∀ t, Operand.tmp t ∈ o.op.operands → Ok t (a.eval (.tmp t)) w) → ∃ u w', (execOp a.eval o).run P w = .ok (.value u) w' ∧ C w' ∧ Ext w w' ∧ Ok d u w') : Ssb.Good P C Ext Ok o := by
  intro a w hC hop
  obtain ⟨u, w', h1, h2, h3, h4⟩ := h a w hC hop
  rw [h1]
  refine ⟨h2, h3, fun d' hd' => ?_⟩
  rw [hd] at hd'
  obtain rfl := Option.some.inj hd'
  exact h4
theorem val (hr : ∀ w, Ext w w) (hd : o.dst = some d) (h : ∀ (a : Act) (w : World), C w → (∀ t, Operand.tmp t ∈ o.op.operands → Ok t (a.eval (.tmp t)) w) → ∃ u, (execOp a.eval o).run P w = .ok (.value u) w ∧ Ok d u w) : Ssb.Good P C Ext Ok o :=
  step hd fun a w hC hop => by
    obtain ⟨u, h1, h2⟩ := h a w hC hop
    exact ⟨u, w, h1, hC, hr w, h2⟩
theorem mv (hr : ∀ w, Ext w w) {x : Tmp} (ho : o.op = .move (.tmp x)) (hd : o.dst = some d) (h : ∀ v w, Ok x v w → Ok d v w) : Ssb.Good P C Ext Ok o :=
  val hr hd fun a w hC hop => ⟨_, Ssa.run_mv ho rfl w, h _ _ (hop x (by rw [ho]; simp [Op.operands]))⟩
theorem asg (hr : ∀ w, Ext w w) {x : Tmp} (ho : o.op = .assign (.tmp x)) (hd : o.dst = some d) (h : ∀ v w, Ok x v w → Ok d v w) : Ssb.Good P C Ext Ok o :=
  val hr hd fun a w hC hop => ⟨_, Ssa.run_asg ho rfl w, h _ _ (hop x (by rw [ho]; simp [Op.operands]))⟩
/-- An operation on one temporary whose value is known, or on two. -/
theorem val1 (hr : ∀ w, Ext w w) {x : Tmp} {v : Value} (u : Value) (hx : Operand.tmp x ∈ o.op.operands) (hd : o.dst = some d) (hX : ∀ v w, Ok x v w → v = u) (hrun : ∀ ρ : Operand → Value, ρ (.tmp x) = u → (∀ c, ρ (.const c) = c) → ∀ w, (execOp ρ o).run P w = .ok (.value v) w) (h : ∀ w, Ok d v w) : Ssb.Good P C Ext Ok o :=
  val hr hd fun a w hC hop => ⟨v, hrun a.eval (hX _ _ (hop x hx)) (fun _ => rfl) w, h w⟩
theorem val2 (hr : ∀ w, Ext w w) {x y : Tmp} {v : Value} (u u' : Value) (hx : Operand.tmp x ∈ o.op.operands) (hy : Operand.tmp y ∈ o.op.operands) (hd : o.dst = some d) (hX : ∀ v w, Ok x v w → v = u) (hY : ∀ v w, Ok y v w → v = u') (hrun : ∀ ρ : Operand → Value, ρ (.tmp x) = u → ρ (.tmp y) = u' → (∀ c, ρ (.const c) = c) → ∀ w, (execOp ρ o).run P w = .ok (.value v) w) (h : ∀ w, Ok d v w) : Ssb.Good P C Ext Ok o :=
  val hr hd fun a w hC hop => ⟨v, hrun a.eval (hX _ _ (hop x hx)) (hY _ _ (hop y hy)) (fun _ => rfl) w, h w⟩
/-- 'a && b' behind a true a. -/
theorem and (hr : ∀ w, Ext w w) {c x : Tmp} {y : Operand} (ho : o.op = .pick (.tmp c) (.tmp x) y) (hd : o.dst = some d) (hc : ∀ v w, Ok c v w → v = .bool true) (h : ∀ v w, Ok x v w → Ok d v w) : Ssb.Good P C Ext Ok o :=
  val hr hd fun a w hC hop => ⟨_, Ssa.run_pick ho (hc _ _ (hop c (by rw [ho]; simp [Op.operands]))) rfl w, h _ _ (hop x (by rw [ho]; simp [Op.operands]))⟩
theorem run_pick_no {ρ : Operand → Value} {c x y : Operand} {v : Value} (ho : o.op = .pick c x y) (hc : ρ c = .bool false) (hx : ρ y = v) (w : World) : (execOp ρ o).run P w = .ok (.value v) w := by
  unfold execOp; rw [ho]; simp [hc, hx, go_sem]
/-- 'a || b' behind a false a. -/
theorem or (hr : ∀ w, Ext w w) {c y : Tmp} {x : Operand} (ho : o.op = .pick (.tmp c) x (.tmp y)) (hd : o.dst = some d) (hc : ∀ v w, Ok c v w → v = .bool false) (h : ∀ v w, Ok y v w → Ok d v w) : Ssb.Good P C Ext Ok o :=
  val hr hd fun a w hC hop => ⟨_, run_pick_no ho (hc _ _ (hop c (by rw [ho]; simp [Op.operands]))) rfl w, h _ _ (hop y (by rw [ho]; simp [Op.operands]))⟩
theorem whole (hr : ∀ w, Ext w w) {x : Tmp} {ty : TypeId} (ho : o.op = .load ty (.tmp x)) (hd : o.dst = some d) (b : Nat) (cs : List Value) (hx : ∀ v w, Ok x v w → v = .pointer (some ⟨b, 0, none⟩)) (hrg : ∀ w, C w → w.rangeAt b 0 cs) {td : TypeDesc}
    (hu : P.underlying ty = some td) (hrow : td.isRow = true) (hi : (P.info? ty).map (·.size) = some cs.length) (h : ∀ w, Ok d (.agg cs.toArray) w) : Ssb.Good P C Ext Ok o :=
  val hr hd fun a w hC hop => ⟨_, by
    have hv := hx _ _ (hop x (by rw [ho]; simp [Op.operands]))
    unfold execOp
    simp only [ho, hv, Sem.run_bind, Sem.run_pure, Result.andThen_ok, run_loadAt_mid w b 0 ty cs td (hrg w hC) hu hrow hi], h w⟩
theorem str (hr : ∀ w, Ext w w) {x : Tmp} {src dst e : TypeId} (ho : o.op = .convert src dst (.tmp x)) (hd : o.dst = some d) (hs : P.underlying src = some (.slice e)) (he : P.underlying e = some (.int .u8)) (hds : P.underlying dst = some .string)
    (hx : ∀ v w, C w → Ok x v w → ∃ a n cap xs, v = .slice a n cap ∧ xs.length = n ∧ Rd w a (nums .u8 xs) ∧ Ok d (.string (Ssb.bstr xs)) w) : Ssb.Good P C Ext Ok o :=
  val hr hd fun a w hC hop => by
    obtain ⟨ad, n, cap, xs, h1, h2, h3, h4⟩ := hx _ w hC (hop x (by rw [ho]; simp [Op.operands]))
    refine ⟨_, ?_, h4⟩
    unfold execOp
    simp only [ho, h1, Sem.run_bind, Sem.run_pure, Result.andThen_ok, Ssb.run_bstr hs he hds h2 h3]
theorem eqs (hr : ∀ w, Ext w w) {x y : Tmp} {ty u : TypeId} (ho : o.op = .binOp .eql ty (.tmp x) (.tmp y) u) (hd : o.dst = some d) (hu : P.underlying ty = some .string) (s : ByteArray) (hx : ∀ v w, Ok x v w → v = .string s) (hy : ∀ v w, Ok y v w → v = .string s)
    (h : ∀ w, Ok d (.bool true) w) : Ssb.Good P C Ext Ok o :=
  val hr hd fun a w hC hop => ⟨.bool true, by
    have h1 := hx _ _ (hop x (by rw [ho]; simp [Op.operands]))
    have h2 := hy _ _ (hop y (by rw [ho]; simp [Op.operands]))
    unfold execOp
    simp only [ho, h1, h2]
    simp [go_sem, eqGuard], h w⟩
theorem nes (hr : ∀ w, Ext w w) {x y : Tmp} {ty u : TypeId} (ho : o.op = .binOp .neq ty (.tmp x) (.tmp y) u) (hd : o.dst = some d) (hu : P.underlying ty = some .string) (s : ByteArray) (hx : ∀ v w, Ok x v w → v = .string s) (hy : ∀ v w, Ok y v w → v = .string s)
    (h : ∀ w, Ok d (.bool false) w) : Ssb.Good P C Ext Ok o :=
  val hr hd fun a w hC hop => ⟨.bool false, by
    have h1 := hx _ _ (hop x (by rw [ho]; simp [Op.operands]))
    have h2 := hy _ _ (hop y (by rw [ho]; simp [Op.operands]))
    unfold execOp
    simp only [ho, h1, h2]
    simp [go_sem, eqGuard], h w⟩
theorem eqa (hr : ∀ w, Ext w w) {x y : Tmp} {ty u : TypeId} (ho : o.op = .binOp .eql ty (.tmp x) (.tmp y) u) (hd : o.dst = some d) (hg : P.eqGuardType P.depth ty = false) (X : Array Value) (hx : ∀ v w, Ok x v w → v = .agg X) (hy : ∀ v w, Ok y v w → v = .agg X)
    (he : ∀ w, (Op.equalIn 10000 ty (.agg X) (.agg X)).run P w = .ok true w) (h : ∀ w, Ok d (.bool true) w) : Ssb.Good P C Ext Ok o :=
  val hr hd fun a w hC hop => ⟨.bool true, by
    have h1 := hx _ _ (hop x (by rw [ho]; simp [Op.operands]))
    have h2 := hy _ _ (hop y (by rw [ho]; simp [Op.operands]))
    unfold execOp
    simp only [ho, h1, h2, Sem.run_bind, run_eqGuard_agg w .eql ty _ _ X X hg, Result.andThen_ok, run_eql_struct w ty X X, he w, Sem.run_pure], h w⟩
theorem call (hd : o.dst = some d) (h : ∀ (a : Act) (w : World), C w → (∀ t, Operand.tmp t ∈ o.op.operands → Ok t (a.eval (.tmp t)) w) → ∃ f args, (execOp a.eval o).run P w = .ok (.enter f args) w ∧
      Calls P f args w fun e w' => ∃ u, e = .returned u ∧ C w' ∧ Ext w w' ∧ Ok d u w') : Ssb.Good P C Ext Ok o := by
  intro a w hC hop
  obtain ⟨f, args, h1, h2⟩ := h a w hC hop
  rw [h1]
  refine h2.mono ?_
  rintro e w' ⟨u, rfl, h3, h4, h5⟩
  refine ⟨u, rfl, h3, h4, fun d' hd' => ?_⟩
  rw [hd] at hd'
  obtain rfl := Option.some.inj hd'
  exact h5

/-- A whole array as a slice. -/
theorem run_all {t e : TypeId} {n : Nat} (hu : P.underlying t = some (.array n e)) (hi : (P.info? e).map (·.size) = some 1) (g : Nat) (w : World) :
    (Instr.sliceAt t (.pointer (some ⟨g, 0, none⟩)) none none none).run P w = .ok (.slice (some ⟨g, 0, none⟩) n n) w := by
  have hn : P.arrayLen t = n := by simp [Program.arrayLen, hu]
  have he : P.elem t = e := by simp [Program.elem, hu]
  cases hq : P.info? e with
  | none => simp [hq] at hi
  | some i =>
    have hsz : i.size = 1 := by simpa [hq] using hi
    simp [hu, sizeOf, typeInfo, hq, hsz, slicedAt, go_sem]
theorem all (hr : ∀ w, Ext w w) {x : Tmp} {t e : TypeId} {n : Nat} (ho : o.op = .slice t (.tmp x) none none none) (hd : o.dst = some d) (hu : P.underlying t = some (.array n e)) (hi : (P.info? e).map (·.size) = some 1) (g : Nat) (hx : ∀ v w, Ok x v w → v = .pointer (some ⟨g, 0, none⟩))
    (h : ∀ w, Ok d (.slice (some ⟨g, 0, none⟩) n n) w) : Ssb.Good P C Ext Ok o :=
  val hr hd fun a w hC hop => ⟨_, by
    have hv := hx _ _ (hop x (by rw [ho]; simp [Op.operands]))
    unfold execOp
    simp only [ho, hv, Option.map_none, Sem.run_bind, run_all hu hi g w, Result.andThen_ok, Sem.run_pure], h w⟩

/-- Block g alone may change; what it holds at last it keeps. -/
def Into (g : Nat) (t : TypeId) (vs : List Value) (w w' : World) : Prop := w.grownBy w' (some g) ∧ (Row w g t vs → Row w' g t vs)
theorem Into.refl (g : Nat) (t : TypeId) (vs : List Value) (w : World) : Into g t vs w w := ⟨grown_old (Old.refl w) _, id⟩
theorem Into.of_old {g : Nat} {t : TypeId} {vs : List Value} {w w' : World} (o : Old w w') : Into g t vs w w' := ⟨grown_old o _, fun h => h.mono o⟩
/-- Block g holds at last what it should. -/
def laid (g : Nat) (t : TypeId) (vs : List Value) : XP (Into g t vs) := ⟨fun _ w => Row w g t vs, fun _ _ _ h e => e.2 h⟩
/-- A new slice, not in block g. -/
def other (g : Nat) (t : TypeId) (vs : List Value) (k : IntKind) (n : Nat) (xs : List Nat) : XP (Into g t vs) :=
  ⟨fun v w => ∃ b, b ≠ g ∧ v = .slice (some ⟨b, 0, none⟩) n n ∧ Rd w (some ⟨b, 0, none⟩) (nums k xs), fun _ _ _ ⟨b, h0, h1, h2⟩ e => ⟨b, h0, h1, h2.grown e.1 fun x _ hx => by cases hx; exact h0⟩⟩

/-- What copy lays into a block that is known whole. -/
theorem run_into {dT sT ty e : TypeId} (hu : P.underlying dT = some (.slice e)) (hs : (P.info? e).map (·.size) = some 1) {k : IntKind} {g n cap m cap' : Nat} {t : TypeId} {zs xs : List Nat} {w : World} {a : Option Addr} (R : Row w g t (nums k zs)) (hz : zs.length = n) (hx : xs.length = m) (hm : m ≤ n) (h0 : 0 < m) (rd : Rd w a (nums k xs)) :
    (Builtin.copy_ #[dT, sT] ty #[.slice (some ⟨g, 0, none⟩) n cap, .slice a m cap']).run P w = .ok (goInt m) (w.setRow g (nums k (xs ++ zs.drop m)).toArray) := by
  obtain ⟨b, off, z, rfl, _, _⟩ := rd.num (i := 0) (by omega)
  have hl : (nums k xs).length = m := by rw [nums_length, hx]
  have hrun := run_copy_row P w dT sT ty e g 0 n cap ⟨b, off, none⟩ m cap' (nums k zs).toArray t (nums k xs) hu hs R (by rw [hl]; exact (Nat.min_eq_left hm).symm)
    (fun j v hj => by
      obtain ⟨b', off', ha, hc⟩ := rd j v hj
      obtain ⟨rfl, rfl⟩ : b = b' ∧ off = off' := by simpa using ha
      rw [Addr.add_lit]; exact hc) (by simp [nums_length, hl, hz, hm]) (nums_oneCell k xs)
  rw [hrun, hl]
  congr 3
  simp [nums, List.map_append, List.map_drop]
end
end Ssx
theorem Row.rngX {w : World} {g : Nat} {t : TypeId} {vs : List Value} (R : Row w g t vs) : w.rangeAt g 0 vs := fun j v hv => by rw [Nat.zero_add]; exact R.cell hv
end Go.Proofs.YtjbpnhibgafdmaaDoor

/-
  A region that draws its order, told by predicates (modules Ssb, Ssx), in which guards may say no, too: what stands behind such a guard is not run.
-/
namespace Go.Proofs.YtjbpnhibgafdmaaDoor
open Go Go.RowKit
set_option linter.unusedVariables false
namespace Ssy

/-- What is told of a temporary that a guard looks at: a Boolean, or that it was never run. -/
def valOf : Option Bool → Value
  | some b => .bool b
  | none => undef
theorem valOf_ne {x : Option Bool} {b : Bool} (h : (x == some b) = false) : valOf x ≠ .bool b := by
  cases x with
  | none => intro e; simp [valOf, undef] at e
  | some c => intro e; simp [valOf] at e; subst e; simp at h

section
variable {P : Program} {Q : Exit → Act → World → Prop} {C : World → Prop} {Ext : World → World → Prop} {Ok : Tmp → Value → World → Prop} {n : Nat} {ops : Array Oper} {told : List (Tmp × Option Bool)}

/-- The temporary that the operation's guard looks at. -/
def gTmp (ops : Array Oper) (j : Nat) : Option Tmp := (ops[j]?).bind (·.dst)
def metB (ops : Array Oper) (n : Nat) (told : List (Tmp × Option Bool)) (o : Oper) : Bool :=
  match o.guard with
  | none => true
  | some (j, b) => match gTmp ops j with
    | some t => decide (t < n) && (match told.lookup t with | some x => x == some b | none => false)
    | none => false
def skipB (ops : Array Oper) (n : Nat) (told : List (Tmp × Option Bool)) (o : Oper) : Bool :=
  match o.guard with
  | none => false
  | some (j, b) => match gTmp ops j with
    | some t => decide (t < n) && (match told.lookup t with | some x => !(x == some b) | none => false) && (match o.dst with | some d => told.lookup d == some none | none => true)
    | none => false

def AllGood (P : Program) (C : World → Prop) (Ext : World → World → Prop) (Ok : Tmp → Value → World → Prop) (ops : Array Oper) (n : Nat) (told : List (Tmp × Option Bool)) : List Oper → Prop
  | [] => True
  | o :: l => (skipB ops n told o = true ∨ metB ops n told o = true ∧ Ssb.Good P C Ext Ok o) ∧ AllGood P C Ext Ok ops n told l
theorem allGood_at : ∀ (l : List Oper), AllGood P C Ext Ok ops n told l → ∀ (i : Nat) (o : Oper), l[i]? = some o → skipB ops n told o = true ∨ metB ops n told o = true ∧ Ssb.Good P C Ext Ok o
  | [], _, _, _, h => by simp at h
  | o :: l, h, 0, o', e => by simp at e; subst e; exact h.1
  | o :: l, h, i + 1, o', e => allGood_at l h.2 i o' (by simpa using e)

theorem walk {ds : List Deferred} (F : Ssa.Fits ops [] []) (hin : ∀ (i : Nat) (o : Oper), ops[i]? = some o → Ssb.inB n o = true)
    (hgood : ∀ (i : Nat) (o : Oper), ops[i]? = some o → skipB ops n told o = true ∨ metB ops n told o = true ∧ Ssb.Good P C Ext Ok o)
    (hr : ∀ w, Ext w w) (hst : ∀ t v w w', Ok t v w → Ext w w' → Ok t v w') (htold : ∀ t x, told.lookup t = some x → ∀ v w, Ok t v w ↔ v = valOf x)
    (hQ : ∀ a w, C w → a.defers = ds → a.tmps.size = n → (∀ t, t < n → Ok t (a.eval (.tmp t)) w) → Q .normal a w) :
    ∀ (fuel : Nat) (listed : Array Bool) (a : Act) (w : World), Ssb.Inv ops C Ok n ds fuel listed a w → wpAny P .any ops Q fuel listed a w := by
  have fin : ∀ (fuel : Nat) (listed : Array Bool) (a : Act) (w : World), Ssb.Inv ops C Ok n ds fuel listed a w → Region.ready .any ops listed = [] → Q .normal a w := by
    intro fuel listed a w I hr
    have hall := Ssa.all_listed F I.size hr
    exact hQ a w I.world I.defers I.slots fun t ht => I.holds t ht fun i o ho _ => hall i o ho
  intro fuel
  induction fuel with
  | zero =>
    intro listed a w I
    have hr : Region.ready .any ops listed = [] := by
      cases hc : Region.ready .any ops listed with
      | nil => rfl
      | cons i l =>
        have hm : i ∈ Region.ready .any ops listed := by rw [hc]; simp
        obtain ⟨_, hf⟩ := Ssa.getD_true (mem_ready.1 hm).1
        have h0 := I.left
        rw [List.count_eq_zero] at h0
        exact absurd (List.mem_of_getElem? (by simpa using hf)) h0
    exact ⟨hr, fin _ _ _ _ I hr⟩
  | succ fuel ih =>
    intro listed a w I
    refine ⟨fin _ _ _ _ I, fun i hi => ?_⟩
    obtain ⟨hun, o, ho, hall⟩ := mem_ready.1 hi
    obtain ⟨hlt, hf⟩ := Ssa.getD_true hun
    have hi' := hin i o ho
    simp only [Ssb.inB, Bool.and_eq_true] at hi'
    have hops : ∀ t, Operand.tmp t ∈ o.op.operands → Ok t (a.eval (.tmp t)) w := by
      intro t ht
      have h4 := Array.all_eq_true_iff_forall_mem.1 hi'.2 _ ht
      refine I.holds t (by simpa using h4) fun j o' ho' hd => ?_
      obtain ⟨e, he, hb, rfl⟩ := F.data i o ho t ht j o' ho' hd
      exact hall e he hb
    have hlook : ∀ j b t x, o.guard = some (j, b) → gTmp ops j = some t → t < n → told.lookup t = some x → a.tmps[t]? = some (valOf x) := by
      intro j b t x h0 hd htn hx
      rcases F.guard i o ho with h1 | ⟨j', b', t', h1, hd', hwr⟩
      · rw [h0] at h1; cases h1
      · rw [h0] at h1
        obtain ⟨rfl, rfl⟩ : j = j' ∧ b = b' := by simpa using h1
        have : t = t' := by
          have : gTmp ops j = some t' := hd'
          rw [hd] at this
          exact Option.some.inj this
        subst this
        have h2 := (htold t x hx _ _).1 (I.holds t htn fun k o' ho' hd'' => by
          obtain ⟨e, he, hb, rfl⟩ := hwr k o' ho' hd''
          exact hall e he hb)
        have hs : t < a.tmps.size := by rw [I.slots]; exact htn
        simp [Act.eval, hs] at h2
        simp [hs, h2]
    have next : ∀ (u : Value) (w' : World), C w' → Ext w w' → (∀ d, o.dst = some d → Ok d u w') → Ssb.Inv ops C Ok n ds fuel (listed.setIfInBounds i true) (a.put o.dst u) w' := by
      intro u w' hC hE hd
      have hput : (a.put o.dst u).tmps.size = a.tmps.size ∧ (a.put o.dst u).defers = a.defers := by
        cases hdst : o.dst <;> simp [Act.put]
      refine ⟨by simpa using I.size, ?_, hC, hput.2.trans I.defers, hput.1.trans I.slots, ?_⟩
      · have := Ssa.count_set (l := listed.toList) (i := i) (by simpa using hf)
        have h0 := I.left
        simp only [Array.toList_setIfInBounds]
        omega
      · intro t htn ht
        have hold : o.dst ≠ some t → Ok t (a.eval (.tmp t)) w' := fun hne => hst _ _ _ _ (I.holds t htn fun j o' ho' hd' => by
          rcases Ssa.getD_set.1 (ht j o' ho' hd') with h' | ⟨rfl, _⟩
          · exact h'
          · rw [ho] at ho'
            obtain rfl := Option.some.inj ho'
            exact absurd hd' hne) hE
        cases hdst : o.dst with
        | none => simp only [Act.put]; exact hold (by rw [hdst]; simp)
        | some d =>
          by_cases hdt : d = t
          · subst hdt
            have hds : d < a.tmps.size := by rw [I.slots]; exact htn
            have hv := hd d hdst
            simpa [Act.eval, Act.put, hds] using hv
          · have hv := hold (by rw [hdst]; simpa using hdt)
            rw [Act.eval_put (by intro d' hd' e; cases hd'; cases e; exact hdt rfl)]
            exact hv
    unfold wpOp
    rcases hgood i o ho with hs | ⟨hm, hg⟩
    · have hw : Region.wanted o (yielded ops a.tmps) = false := by
        unfold skipB at hs
        cases h0 : o.guard with
        | none => simp [h0] at hs
        | some jb =>
          obtain ⟨j, b⟩ := jb
          rw [h0] at hs
          simp only at hs
          cases hd : gTmp ops j with
          | none => simp [hd] at hs
          | some t =>
            simp only [hd, Bool.and_eq_true, decide_eq_true_eq] at hs
            obtain ⟨⟨htn, hx⟩, _⟩ := hs
            cases hl : told.lookup t with
            | none => simp [hl] at hx
            | some x =>
              simp only [hl, Bool.not_eq_true'] at hx
              have h3 := hlook j b t x h0 hd htn hl
              have hd2 : (ops[j]?).bind (·.dst) = some t := hd
              have hne := valOf_ne hx
              cases x with
              | none =>
                simp [valOf] at h3
                simp [Region.wanted, h0, yielded, hd2, h3, undef]
              | some c =>
                simp [valOf] at h3 hne
                simp [Region.wanted, h0, yielded, hd2, h3, hne]
      simp only [ho, hw]
      refine ih _ _ _ (next undef w I.world (hr w) fun d hd => ?_)
      unfold skipB at hs
      cases h0 : o.guard with
      | none => simp [h0] at hs
      | some jb =>
        obtain ⟨j, b⟩ := jb
        rw [h0] at hs
        simp only at hs
        cases hd' : gTmp ops j with
        | none => simp [hd'] at hs
        | some t =>
          simp only [hd', Bool.and_eq_true, decide_eq_true_eq, hd] at hs
          have hu := hs.2
          simp only [beq_iff_eq] at hu
          exact (htold d none hu undef w).2 rfl
    · have hw : Region.wanted o (yielded ops a.tmps) = true := by
        unfold metB at hm
        cases h0 : o.guard with
        | none => simp [Region.wanted, h0]
        | some jb =>
          obtain ⟨j, b⟩ := jb
          rw [h0] at hm
          simp only at hm
          cases hd : gTmp ops j with
          | none => simp [hd] at hm
          | some t =>
            simp only [hd, Bool.and_eq_true, decide_eq_true_eq] at hm
            obtain ⟨htn, hx⟩ := hm
            cases hl : told.lookup t with
            | none => simp [hl] at hx
            | some x =>
              simp only [hl, beq_iff_eq] at hx
              subst hx
              have h3 := hlook j b t _ h0 hd htn hl
              have hd2 : (ops[j]?).bind (·.dst) = some t := hd
              simp [valOf] at h3
              simp [Region.wanted, h0, yielded, hd2, h3]
      have hg := hg a w I.world hops
      simp only [ho, hw, if_true]
      refine .inl ?_
      unfold Oper.wp
      generalize (execOp a.eval o).run P w = r at hg
      cases r with
      | ok m w' =>
        cases m with
        | value u => exact ih _ _ _ (next u w' hg.1 hg.2.1 hg.2.2)
        | skip =>
          refine ih _ _ _ (next undef w' hg.1 hg.2.1 fun d hd => ?_)
          rw [hg.2.2] at hd; cases hd
        | enter f args =>
          refine Calls.mono hg fun e w'' he => ?_
          obtain ⟨u, rfl, hC, hE, hd⟩ := he
          exact ih _ _ _ (next u w'' hC hE hd)
        | _ => exact hg.elim
      | halt x w' => exact hg.elim

theorem lookup_of : ∀ {l : List (Tmp × Option Bool)} {t : Tmp} {x : Option Bool}, l.lookup t = some x → (t, x) ∈ l
  | [], _, _, h => by simp at h
  | (k, r) :: l, t, q, h => by
    rw [List.lookup_cons] at h
    split at h
    · rename_i e
      have : t = k := by simpa using e
      subst this
      simp at h
      simp [h]
    · exact List.mem_cons_of_mem _ (lookup_of h)

/-- The region: dsts: all temporaries that it writes; wri: a predicate for each of which something is to be known; told: what the guards look at. -/
theorem region {id : Nat} {l : List Oper} {a : Act} {w : World} (C : World → Prop) (dsts : List Nat) (wri : List (Nat × Ssx.XP Ext)) (told : List (Tmp × Option Bool)) (hm : P.follows .mixedOrders = true) (hB : Ssa.okG l.toArray [] [] = true)
    (hin : (l.all (Ssb.inB a.tmps.size)) = true) (htold : ∀ p ∈ told, ∀ v w, Ssx.ok a dsts wri p.1 v w ↔ v = valOf p.2)
    (hds : (l.all fun o => match o.dst with | some d => dsts.contains d | none => true) = true) (hd2 : (dsts.all fun d => decide (d < a.tmps.size) && l.any fun o => o.dst == some d) = true) (hwr : (wri.all fun p => dsts.contains p.1) = true)
    (hr : ∀ w, Ext w w) (hC : C (w.drewN 1))
    (hgood : AllGood P C Ext (Ssx.ok a dsts wri) l.toArray a.tmps.size told l)
    (hQ : ∀ (vals : Nat → Value) (w' : World), C w' → (∀ p ∈ wri, Ssx.ok a dsts wri p.1 (vals p.1) w') → Q .normal (Ssa.putAll a (dsts.map fun d => (d, vals d))) w') : (Code.region id l.toArray true).wp P Q a w := by
  have hst : ∀ t v w w', Ssx.ok a dsts wri t v w → Ext w w' → Ssx.ok a dsts wri t v w' := by
    intro t v w w' h e
    unfold Ssx.ok at *
    cases hq : wri.lookup t with
    | some q => rw [hq] at h; exact q.st v w w' h e
    | none => rw [hq] at h; exact h
  have hnot : ∀ t, t ∉ dsts → wri.lookup t = none := by
    intro t ht
    cases hq : wri.lookup t with
    | none => rfl
    | some q =>
      have := List.all_eq_true.1 hwr _ (Ssx.lookup_mem hq)
      exact absurd (by simpa using this) ht
  have F := Ssa.fits_ofG hB
  refine wp_region_any hm (walk (Ext := Ext) (Ok := Ssx.ok a dsts wri) (n := a.tmps.size) (ds := a.defers) F (fun i o ho => List.all_eq_true.1 hin o (List.mem_of_getElem? (by simpa using ho))) (fun i o ho => allGood_at l hgood i o (by simpa using ho)) hr hst (fun t x hx => htold _ (lookup_of hx)) ?_ _ _ _ _ ⟨by simp, by simp, hC, rfl, rfl, ?_⟩)
  · intro a' w' hC' hdef hsz hok
    have hall : ∀ d ∈ dsts, d < a.tmps.size := by
      intro d hd
      have h1 := List.all_eq_true.1 hd2 _ hd
      simp only [Bool.and_eq_true, decide_eq_true_eq] at h1
      exact h1.1
    have e : a' = Ssa.putAll a (dsts.map fun d => (d, a'.eval (.tmp d))) := by
      cases a' with
      | mk tmps' defers' =>
        unfold Ssa.putAll
        simp only [Act.mk.injEq]
        refine ⟨?_, hdef⟩
        apply Array.ext_getElem?
        intro t
        by_cases ht : t < a.tmps.size
        · have hsz' : tmps'.size = a.tmps.size := hsz
          have ht' : t < tmps'.size := by rw [hsz']; exact ht
          by_cases hd : t ∈ dsts
          · rw [Ssx.puts _ (fun d => ({ tmps := tmps', defers := defers' } : Act).eval (.tmp d)) dsts t hall hd]
            simp [Act.eval, ht']
          · rw [Ssa.putAll_other _ _ _ (by
              intro p hp e
              obtain ⟨e', he, rfl⟩ := List.mem_map.1 hp
              exact hd (e ▸ he))]
            have h1 := hok t ht
            unfold Ssx.ok at h1
            rw [hnot t hd, show dsts.contains t = false by simpa using hd] at h1
            simp [Act.eval, ht, ht'] at h1
            simp [ht, ht', h1]
        · have hsz' : tmps'.size = a.tmps.size := hsz
          rw [Array.getElem?_eq_none (by omega), Array.getElem?_eq_none (by rw [Ssa.putAll_size]; omega)]
    rw [e]
    refine hQ (fun d => a'.eval (.tmp d)) w' hC' fun p hp => ?_
    have hp1 := List.all_eq_true.1 hwr _ hp
    exact hok p.1 (hall _ (by simpa using hp1))
  · intro t ht hw
    have hun : ∀ (i : Nat) (o : Oper), l.toArray[i]? = some o → o.dst ≠ some t := by
      intro i o ho hd
      have := hw i o ho hd
      simp [Array.getElem?_replicate] at this
      split at this <;> simp_all
    have htd : t ∉ dsts := by
      intro h
      have h1 := List.all_eq_true.1 hd2 _ h
      simp only [Bool.and_eq_true] at h1
      obtain ⟨o, ho, he⟩ := List.any_eq_true.1 h1.2
      obtain ⟨i, hi, rfl⟩ := List.mem_iff_getElem.1 ho
      exact hun i l[i] (by simp [hi]) (by simpa using he)
    unfold Ssx.ok
    rw [hnot t htd, show dsts.contains t = false by simpa using htd]

variable {o : Oper} {d : Tmp}
/-- 'a && b' behind a false a; 'a || b' behind a true a. -/
theorem and_no (hr : ∀ w, Ext w w) {c : Tmp} {x : Operand} {v : Value} (ho : o.op = .pick (.tmp c) x (.const v)) (hd : o.dst = some d) (hc : ∀ v w, Ok c v w → v = .bool false) (h : ∀ w, Ok d v w) : Ssb.Good P C Ext Ok o :=
  Ssx.val hr hd fun a w hC hop => ⟨_, Ssx.run_pick_no ho (hc _ _ (hop c (by rw [ho]; simp [Op.operands]))) rfl w, h _⟩
theorem or_yes (hr : ∀ w, Ext w w) {c : Tmp} {y : Operand} {v : Value} (ho : o.op = .pick (.tmp c) (.const v) y) (hd : o.dst = some d) (hc : ∀ v w, Ok c v w → v = .bool true) (h : ∀ w, Ok d v w) : Ssb.Good P C Ext Ok o :=
  Ssx.val hr hd fun a w hC hop => ⟨_, Ssa.run_pick ho (hc _ _ (hop c (by rw [ho]; simp [Op.operands]))) rfl w, h _⟩
/-- A constant. -/
theorem mvc (hr : ∀ w, Ext w w) {v : Value} (ho : o.op = .move (.const v)) (hd : o.dst = some d) (h : ∀ w, Ok d v w) : Ssb.Good P C Ext Ok o :=
  Ssx.val hr hd fun a w hC hop => ⟨_, Ssa.run_mv ho rfl w, h w⟩
theorem asgc (hr : ∀ w, Ext w w) {v : Value} (ho : o.op = .assign (.const v)) (hd : o.dst = some d) (h : ∀ w, Ok d v w) : Ssb.Good P C Ext Ok o :=
  Ssx.val hr hd fun a w hC hop => ⟨_, Ssa.run_asg ho rfl w, h w⟩
/-- One cell. -/
theorem cell (hr : ∀ w, Ext w w) {x : Tmp} {ty : TypeId} {td : TypeDesc} (ho : o.op = .load ty (.tmp x)) (hd : o.dst = some d) (ad : Addr) (v : Value) (hx : ∀ u w, Ok x u w → u = .pointer (some ad)) (hc : ∀ w, C w → w.cell? ad = some v) (hu : P.underlying ty = some td)
    (hn : (match td with | .struct _ | .array _ _ => true | _ => false) = false) (h : ∀ w, Ok d v w) : Ssb.Good P C Ext Ok o :=
  Ssx.val hr hd fun a w hC hop => ⟨_, Ssa.run_load ty _ td ho ad v (hx _ _ (hop x (by rw [ho]; simp [Op.operands]))) hu hn w (hc w hC), h w⟩
/-- Whole arrays compared: any outcome. -/
theorem eqv (hr : ∀ w, Ext w w) {x y : Tmp} {ty u : TypeId} (ho : o.op = .binOp .eql ty (.tmp x) (.tmp y) u) (hd : o.dst = some d) (hg : P.eqGuardType P.depth ty = false) (X Y : Array Value) (b : Bool) (hx : ∀ v w, Ok x v w → v = .agg X) (hy : ∀ v w, Ok y v w → v = .agg Y)
    (he : ∀ w, (Op.equalIn 10000 ty (.agg X) (.agg Y)).run P w = .ok b w) (h : ∀ w, Ok d (.bool b) w) : Ssb.Good P C Ext Ok o :=
  Ssx.val hr hd fun a w hC hop => ⟨.bool b, by
    have h1 := hx _ _ (hop x (by rw [ho]; simp [Op.operands]))
    have h2 := hy _ _ (hop y (by rw [ho]; simp [Op.operands]))
    unfold execOp
    simp only [ho, h1, h2, Sem.run_bind, run_eqGuard_agg w .eql ty _ _ X Y hg, Result.andThen_ok, run_eql_struct w ty X Y, he w, Sem.run_pure], h w⟩
end
end Ssy
end Go.Proofs.YtjbpnhibgafdmaaDoor

/-
  A region that draws its order, whose last operations wait for all others: the first ones are told by predicates (module Ssy), the last ones are walked in their order.
-/
namespace Go.Proofs.YtjbpnhibgafdmaaDoor
open Go Go.RowKit
set_option linter.unusedVariables false
namespace Ssz

section
variable {P : Program} {Q : Exit → Act → World → Prop} {C : World → Prop} {D : Act → World → Prop} {Ext : World → World → Prop} {Ok : Tmp → Value → World → Prop} {n : Nat} {ops : Array Oper} {told : List (Tmp × Option Bool)}

/-- Operation i waits for j, by some steps. -/
def reach (ops : Array Oper) : Nat → Nat → Nat → Bool
  | 0, _, _ => false
  | f + 1, i, j => match ops[i]? with
    | some o => o.after.any fun e => Region.binds .any e && (e.on == j || reach ops f e.on j)
    | none => false
def tailB (ops : Array Oper) (m : Nat) : Bool := (List.range ops.size).all fun i => decide (i < m) || (List.range i).all fun j => reach ops ops.size i j

def Closed (ops : Array Oper) (listed : Array Bool) : Prop := ∀ (i : Nat) (o : Oper), ops[i]? = some o → listed.getD i false = true → ∀ e ∈ o.after, Region.binds .any e = true → listed.getD e.on false = true
theorem reach_listed {listed : Array Bool} (hc : Closed ops listed) : ∀ (f i j : Nat) (o : Oper), ops[i]? = some o → (∀ e ∈ o.after, Region.binds .any e = true → listed.getD e.on false = true) → reach ops f i j = true → listed.getD j false = true
  | 0, i, j, o, ho, hall, h => by simp [reach] at h
  | f + 1, i, j, o, ho, hall, h => by
    rw [reach, ho] at h
    simp only [Array.any_eq_true] at h
    obtain ⟨k, hk, h⟩ := h
    simp only [Bool.and_eq_true, Bool.or_eq_true, beq_iff_eq] at h
    have hm : o.after[k] ∈ o.after := Array.getElem_mem hk
    have hl := hall _ hm h.1
    rcases h.2 with h2 | h2
    · rw [← h2]; exact hl
    · cases ho2 : ops[o.after[k].on]? with
      | none =>
        exfalso
        cases f with
        | zero => simp [reach] at h2
        | succ f => simp [reach, ho2] at h2
      | some o2 => exact reach_listed hc f _ j o2 ho2 (fun e he hb => hc _ _ ho2 hl e he hb) h2

/-- The last operations, in their order. -/
theorem tail (F : Ssa.Fits ops [] []) {m0 : Nat} (ht : tailB ops m0 = true) : ∀ (fuel m : Nat) (listed : Array Bool) (a : Act) (w : World), m0 ≤ m → m + fuel = ops.size → listed.size = ops.size → (∀ j, j < m → listed.getD j false = true) → (∀ j, m ≤ j → listed.getD j false = false) →
    wpList P ops Q (ops.toList.drop m) a w → wpAny P .any ops Q fuel listed a w := by
  intro fuel
  have hone : ∀ (m : Nat) (listed : Array Bool), m0 ≤ m → listed.size = ops.size → (∀ j, j < m → listed.getD j false = true) → (∀ j, m ≤ j → listed.getD j false = false) → ∀ i ∈ Region.ready .any ops listed, i = m := by
    intro m listed hm hsz h1 h2 i hi
    obtain ⟨hun, o, ho, hall⟩ := mem_ready.1 hi
    obtain ⟨hlt, hf⟩ := Ssa.getD_true hun
    have him : m ≤ i := by
      apply Nat.le_of_not_lt
      intro h
      have := h1 i h
      simp [hf] at this
    apply Nat.le_antisymm _ him
    apply Nat.le_of_not_lt
    intro hlt2
    have hio : i < ops.size := by rw [← hsz]; exact hlt
    have hB := List.all_eq_true.1 ht i (List.mem_range.2 hio)
    simp only [Bool.or_eq_true, decide_eq_true_eq] at hB
    rcases hB with hB | hB
    · omega
    · have hr := List.all_eq_true.1 hB m (List.mem_range.2 hlt2)
      have hcl : Closed ops listed := by
        intro k o' ho' hl e he hb
        have hk : k < m := by
          apply Nat.lt_of_not_le
          intro h
          rw [h2 k h] at hl
          cases hl
        exact h1 _ (Nat.lt_trans (F.back k o' ho' e he hb) hk)
      have := reach_listed hcl ops.size i m o ho hall hr
      rw [h2 m (Nat.le_refl _)] at this
      cases this
  induction fuel with
  | zero =>
    intro m listed a w hm hs hsz h1 h2 hw
    have hr : Region.ready .any ops listed = [] := by
      cases hc : Region.ready .any ops listed with
      | nil => rfl
      | cons i l =>
        have hi : i ∈ Region.ready .any ops listed := by rw [hc]; simp
        have e := hone m listed hm hsz h1 h2 i hi
        obtain ⟨_, o, ho, _⟩ := mem_ready.1 hi
        have := (Array.getElem?_eq_some_iff.1 ho).1
        omega
    rw [List.drop_eq_nil_of_le (by simp; omega)] at hw
    exact ⟨hr, hw⟩
  | succ fuel ih =>
    intro m listed a w hm hs hsz h1 h2 hw
    have hmo : m < ops.size := by omega
    have hd : ops.toList.drop m = ops[m] :: ops.toList.drop (m + 1) := by
      rw [List.drop_eq_getElem_cons (by simpa using hmo)]
      simp
    rw [hd] at hw
    have hread : m ∈ Region.ready .any ops listed := by
      refine mem_ready.2 ⟨?_, ops[m], Array.getElem?_eq_getElem hmo, fun e he hb => h1 _ (F.back m _ (Array.getElem?_eq_getElem hmo) e he hb)⟩
      have := h2 m (Nat.le_refl _)
      have hml : m < listed.size := by omega
      simp [hml] at this ⊢
      exact this
    refine ⟨fun hr => (by rw [hr] at hread; cases hread), fun i hi => ?_⟩
    obtain rfl := hone m listed hm hsz h1 h2 i hi
    have next : ∀ a w, wpList P ops Q (ops.toList.drop (i + 1)) a w → wpAny P .any ops Q fuel (listed.setIfInBounds i true) a w := by
      intro a w h
      refine ih (i + 1) _ a w (by omega) (by omega) (by simpa using hsz) (fun j hj => ?_) (fun j hj => ?_) h
      · by_cases e : j = i
        · subst e
          have : j < listed.size := by omega
          simp [this]
        · have := h1 j (by omega)
          exact Ssa.getD_set.2 (Or.inl this)
      · have := h2 j (by omega)
        cases hb : (listed.setIfInBounds i true).getD j false with
        | false => rfl
        | true =>
          rcases Ssa.getD_set.1 hb with h' | ⟨h', _⟩
          · rw [h'] at this; cases this
          · omega
    unfold wpOp
    rw [Array.getElem?_eq_getElem hmo]
    unfold wpList at hw
    split at hw
    · rename_i hwant
      simp only [hwant, if_true]
      rcases hw with hw | hw
      · exact .inl (Oper.wp_mono next hw)
      · exact .inr hw
    · rename_i hwant
      simp only [hwant]
      exact next _ _ hw

/-- The operation, run in a world of the class over operands that meet their predicates, yields what meets its own; and D outlasts it. -/
def GoodD (P : Program) (C : World → Prop) (D : Act → World → Prop) (Ext : World → World → Prop) (Ok : Tmp → Value → World → Prop) (o : Oper) : Prop :=
  ∀ (a : Act) (w : World), C w → D a w → (∀ t, Operand.tmp t ∈ o.op.operands → Ok t (a.eval (.tmp t)) w) →
    match (execOp a.eval o).run P w with
    | .ok (.value u) w' => C w' ∧ Ext w w' ∧ (∀ d, o.dst = some d → Ok d u w') ∧ D (a.put o.dst u) w'
    | .ok .skip w' => C w' ∧ Ext w w' ∧ o.dst = none ∧ D (a.put o.dst undef) w'
    | .ok (.enter f args) w' => Calls P f args w' (fun e w'' => ∃ u, e = .returned u ∧ C w'' ∧ Ext w w'' ∧ (∀ d, o.dst = some d → Ok d u w'') ∧ D (a.put o.dst u) w'')
    | _ => False
theorem good_lift {o : Oper} (h : Ssb.Good P C Ext Ok o) (hD : ∀ a w w' u, D a w → Ext w w' → D (a.put o.dst u) w') : GoodD P C D Ext Ok o := by
  intro a w hC hd hop
  have hg := h a w hC hop
  cases hr : (execOp a.eval o).run P w with
  | ok m w' =>
    rw [hr] at hg
    cases m with
    | value u => exact ⟨hg.1, hg.2.1, hg.2.2, hD _ _ _ _ hd hg.2.1⟩
    | skip => exact ⟨hg.1, hg.2.1, hg.2.2, hD _ _ _ _ hd hg.2.1⟩
    | enter f args =>
      refine Calls.mono hg fun e w'' he => ?_
      obtain ⟨u, h1, h2, h3, h4⟩ := he
      exact ⟨u, h1, h2, h3, h4, hD _ _ _ _ hd h3⟩
    | _ => exact hg.elim
  | halt x w' => rw [hr] at hg; exact hg.elim
def AllGood (P : Program) (C : World → Prop) (D : Act → World → Prop) (Ext : World → World → Prop) (Ok : Tmp → Value → World → Prop) (ops : Array Oper) (n : Nat) (told : List (Tmp × Option Bool)) : List Oper → Prop
  | [] => True
  | o :: l => (Ssy.skipB ops n told o = true ∧ (∀ a w, D a w → D (a.put o.dst undef) w) ∨ Ssy.metB ops n told o = true ∧ GoodD P C D Ext Ok o) ∧ AllGood P C D Ext Ok ops n told l
theorem allGood_at : ∀ (l : List Oper), AllGood P C D Ext Ok ops n told l → ∀ (i : Nat) (o : Oper), l[i]? = some o → Ssy.skipB ops n told o = true ∧ (∀ a w, D a w → D (a.put o.dst undef) w) ∨ Ssy.metB ops n told o = true ∧ GoodD P C D Ext Ok o
  | [], _, _, _, h => by simp at h
  | o :: l, h, 0, o', e => by simp at e; subst e; exact h.1
  | o :: l, h, i + 1, o', e => allGood_at l h.2 i o' (by simpa using e)

structure Inv (ops : Array Oper) (m0 : Nat) (C : World → Prop) (D : Act → World → Prop) (Ok : Tmp → Value → World → Prop) (n : Nat) (ds : List Deferred) (fuel : Nat) (listed : Array Bool) (a : Act) (w : World) : Prop where
  size : listed.size = ops.size
  left : listed.toList.count false = fuel
  world : C w
  apart : D a w
  defers : a.defers = ds
  slots : a.tmps.size = n
  holds : ∀ t, t < n → (∀ (i : Nat) (o : Oper), i < m0 → ops[i]? = some o → o.dst = some t → listed.getD i false = true) → Ok t (a.eval (.tmp t)) w
  rest : ∀ j, m0 ≤ j → listed.getD j false = false
  closed : Closed ops listed

theorem count_all : ∀ (l : List Bool) (m : Nat), m ≤ l.length → (∀ j, j < m → l[j]? = some true) → (∀ j, m ≤ j → j < l.length → l[j]? = some false) → l.count false = l.length - m
  | [], m, h, _, _ => by simp
  | b :: l, 0, h, h1, h2 => by
    have hb := h2 0 (by omega) (by simp)
    simp at hb
    subst hb
    have ih := count_all l 0 (by omega) (fun j hj => by omega) (fun j _ hj => by simpa using h2 (j + 1) (by omega) (by simpa using hj))
    rw [List.count_cons_self, ih]; simp
  | b :: l, m + 1, h, h1, h2 => by
    have hb := h1 0 (by omega)
    simp at hb
    subst hb
    have ih := count_all l m (by simpa using h) (fun j hj => by simpa using h1 (j + 1) (by omega)) (fun j hm hj => by simpa using h2 (j + 1) (by omega) (by simpa using hj))
    rw [List.count_cons_of_ne (by simp), ih]; simp

theorem walk {ds : List Deferred} {m0 : Nat} (hm0 : m0 ≤ ops.size) (F : Ssa.Fits ops [] []) (htail : tailB ops m0 = true) (hin : ∀ (i : Nat) (o : Oper), ops[i]? = some o → Ssb.inB n o = true)
    (hgood : ∀ (i : Nat) (o : Oper), i < m0 → ops[i]? = some o → Ssy.skipB ops n told o = true ∧ (∀ a w, D a w → D (a.put o.dst undef) w) ∨ Ssy.metB ops n told o = true ∧ GoodD P C D Ext Ok o)
    (hr : ∀ w, Ext w w) (hst : ∀ t v w w', Ok t v w → Ext w w' → Ok t v w') (htold : ∀ t x, told.lookup t = some x → ∀ v w, Ok t v w ↔ v = Ssy.valOf x)
    (hQ : ∀ a w, C w → D a w → a.defers = ds → a.tmps.size = n → (∀ t, t < n → Ok t (a.eval (.tmp t)) w) → wpList P ops Q (ops.toList.drop m0) a w) :
    ∀ (fuel : Nat) (listed : Array Bool) (a : Act) (w : World), Inv ops m0 C D Ok n ds fuel listed a w → wpAny P .any ops Q fuel listed a w := by
  have fin : ∀ (fuel : Nat) (listed : Array Bool) (a : Act) (w : World), Inv ops m0 C D Ok n ds fuel listed a w → (∀ j, j < m0 → listed.getD j false = true) → wpAny P .any ops Q fuel listed a w := by
    intro fuel listed a w I hall
    have hf : fuel = ops.size - m0 := by
      rw [← I.left, count_all listed.toList m0 (by simpa [I.size] using hm0) (fun j hj => ?_) (fun j hj hl => ?_)]
      · simp [I.size]
      · have := hall j hj
        have hjl : j < listed.size := by rw [I.size]; omega
        simp [hjl] at this
        simp [hjl, this]
      · have := I.rest j hj
        have hjl : j < listed.size := by simpa using hl
        simp [hjl] at this
        simp [hjl, this]
    exact tail F htail fuel m0 listed a w (Nat.le_refl _) (by omega) I.size hall I.rest (hQ a w I.world I.apart I.defers I.slots fun t ht => I.holds t ht fun i o hi ho _ => hall i hi)
  intro fuel
  induction fuel with
  | zero =>
    intro listed a w I
    refine fin _ _ _ _ I fun j hj => ?_
    have h0 := I.left
    rw [List.count_eq_zero] at h0
    have hjl : j < listed.size := by rw [I.size]; omega
    cases hb : listed[j] with
    | true => simp [hjl, hb]
    | false =>
      exfalso
      apply h0
      have : listed.toList[j]? = some false := by simp [hjl, hb]
      exact List.mem_of_getElem? this
  | succ fuel ih =>
    intro listed a w I
    by_cases hal : ∀ j, j < m0 → listed.getD j false = true
    · exact fin _ _ _ _ I hal
    refine ⟨fun hrd => absurd (fun j hj => ?_) hal, fun i hi => ?_⟩
    · have hall := Ssa.all_listed F I.size hrd
      exact hall j ops[j] (Array.getElem?_eq_getElem (by omega))
    obtain ⟨hun, o, ho, hall⟩ := mem_ready.1 hi
    obtain ⟨hlt, hf⟩ := Ssa.getD_true hun
    have him : i < m0 := by
      apply Nat.lt_of_not_le
      intro hge
      apply hal
      intro j hj
      have hB := List.all_eq_true.1 htail i (List.mem_range.2 (by rw [← I.size]; exact hlt))
      simp only [Bool.or_eq_true, decide_eq_true_eq] at hB
      rcases hB with hB | hB
      · omega
      · exact reach_listed I.closed ops.size i j o ho hall (List.all_eq_true.1 hB j (List.mem_range.2 (by omega)))
    have hi' := hin i o ho
    simp only [Ssb.inB, Bool.and_eq_true] at hi'
    have hops : ∀ t, Operand.tmp t ∈ o.op.operands → Ok t (a.eval (.tmp t)) w := by
      intro t ht
      have h4 := Array.all_eq_true_iff_forall_mem.1 hi'.2 _ ht
      refine I.holds t (by simpa using h4) fun j o' _ ho' hd => ?_
      obtain ⟨e, he, hb, rfl⟩ := F.data i o ho t ht j o' ho' hd
      exact hall e he hb
    have hlook : ∀ j b t x, o.guard = some (j, b) → Ssy.gTmp ops j = some t → t < n → told.lookup t = some x → a.tmps[t]? = some (Ssy.valOf x) := by
      intro j b t x h0 hd htn hx
      rcases F.guard i o ho with h1 | ⟨j', b', t', h1, hd', hwr⟩
      · rw [h0] at h1; cases h1
      · rw [h0] at h1
        obtain ⟨rfl, rfl⟩ : j = j' ∧ b = b' := by simpa using h1
        have : t = t' := by
          have : Ssy.gTmp ops j = some t' := hd'
          rw [hd] at this
          exact Option.some.inj this
        subst this
        have h2 := (htold t x hx _ _).1 (I.holds t htn fun k o' _ ho' hd'' => by
          obtain ⟨e, he, hb, rfl⟩ := hwr k o' ho' hd''
          exact hall e he hb)
        have hs : t < a.tmps.size := by rw [I.slots]; exact htn
        simp [Act.eval, hs] at h2
        simp [hs, h2]
    have next : ∀ (u : Value) (w' : World), C w' → Ext w w' → (∀ d, o.dst = some d → Ok d u w') → D (a.put o.dst u) w' → Inv ops m0 C D Ok n ds fuel (listed.setIfInBounds i true) (a.put o.dst u) w' := by
      intro u w' hC hE hd hDD
      have hput : (a.put o.dst u).tmps.size = a.tmps.size ∧ (a.put o.dst u).defers = a.defers := by
        cases hdst : o.dst <;> simp [Act.put]
      refine ⟨by simpa using I.size, ?_, hC, hDD, hput.2.trans I.defers, hput.1.trans I.slots, ?_, ?_, ?_⟩
      · have := Ssa.count_set (l := listed.toList) (i := i) (by simpa using hf)
        have h0 := I.left
        simp only [Array.toList_setIfInBounds]
        omega
      · intro t htn ht
        have hold : o.dst ≠ some t → Ok t (a.eval (.tmp t)) w' := fun hne => hst _ _ _ _ (I.holds t htn fun j o' hj ho' hd' => by
          rcases Ssa.getD_set.1 (ht j o' hj ho' hd') with h' | ⟨rfl, _⟩
          · exact h'
          · rw [ho] at ho'
            obtain rfl := Option.some.inj ho'
            exact absurd hd' hne) hE
        cases hdst : o.dst with
        | none => simp only [Act.put]; exact hold (by rw [hdst]; simp)
        | some d =>
          by_cases hdt : d = t
          · subst hdt
            have hds : d < a.tmps.size := by rw [I.slots]; exact htn
            have hv := hd d hdst
            simpa [Act.eval, Act.put, hds] using hv
          · have hv := hold (by rw [hdst]; simpa using hdt)
            rw [Act.eval_put (by intro d' hd' e; cases hd'; cases e; exact hdt rfl)]
            exact hv
      · intro j hj
        have := I.rest j hj
        cases hb : (listed.setIfInBounds i true).getD j false with
        | false => rfl
        | true =>
          rcases Ssa.getD_set.1 hb with h' | ⟨h', _⟩
          · rw [h'] at this; cases this
          · omega
      · intro k o' ho' hl e he hb
        rcases Ssa.getD_set.1 hl with h' | ⟨rfl, _⟩
        · exact Ssa.getD_set.2 (Or.inl (I.closed k o' ho' h' e he hb))
        · rw [ho] at ho'
          obtain rfl := Option.some.inj ho'
          exact Ssa.getD_set.2 (Or.inl (hall e he hb))
    unfold wpOp
    rcases hgood i o him ho with ⟨hs, hsD⟩ | ⟨hm, hg⟩
    · have hw : Region.wanted o (yielded ops a.tmps) = false := by
        unfold Ssy.skipB at hs
        cases h0 : o.guard with
        | none => simp [h0] at hs
        | some jb =>
          obtain ⟨j, b⟩ := jb
          rw [h0] at hs
          simp only at hs
          cases hd : Ssy.gTmp ops j with
          | none => simp [hd] at hs
          | some t =>
            simp only [hd, Bool.and_eq_true, decide_eq_true_eq] at hs
            obtain ⟨⟨htn, hx⟩, _⟩ := hs
            cases hl : told.lookup t with
            | none => simp [hl] at hx
            | some x =>
              simp only [hl, Bool.not_eq_true'] at hx
              have h3 := hlook j b t x h0 hd htn hl
              have hd2 : (ops[j]?).bind (·.dst) = some t := hd
              have hne := Ssy.valOf_ne hx
              cases x with
              | none =>
                simp [Ssy.valOf] at h3
                simp [Region.wanted, h0, yielded, hd2, h3, undef]
              | some c =>
                simp [Ssy.valOf] at h3 hne
                simp [Region.wanted, h0, yielded, hd2, h3, hne]
      simp only [ho, hw]
      refine ih _ _ _ (next undef w I.world (hr w) (fun d hd => ?_) (hsD _ _ I.apart))
      unfold Ssy.skipB at hs
      cases h0 : o.guard with
      | none => simp [h0] at hs
      | some jb =>
        obtain ⟨j, b⟩ := jb
        rw [h0] at hs
        simp only at hs
        cases hd' : Ssy.gTmp ops j with
        | none => simp [hd'] at hs
        | some t =>
          simp only [hd', Bool.and_eq_true, decide_eq_true_eq, hd] at hs
          have hu := hs.2
          simp only [beq_iff_eq] at hu
          exact (htold d none hu undef w).2 rfl
    · have hw : Region.wanted o (yielded ops a.tmps) = true := by
        unfold Ssy.metB at hm
        cases h0 : o.guard with
        | none => simp [Region.wanted, h0]
        | some jb =>
          obtain ⟨j, b⟩ := jb
          rw [h0] at hm
          simp only at hm
          cases hd : Ssy.gTmp ops j with
          | none => simp [hd] at hm
          | some t =>
            simp only [hd, Bool.and_eq_true, decide_eq_true_eq] at hm
            obtain ⟨htn, hx⟩ := hm
            cases hl : told.lookup t with
            | none => simp [hl] at hx
            | some x =>
              simp only [hl, beq_iff_eq] at hx
              subst hx
              have h3 := hlook j b t _ h0 hd htn hl
              have hd2 : (ops[j]?).bind (·.dst) = some t := hd
              simp [Ssy.valOf] at h3
              simp [Region.wanted, h0, yielded, hd2, h3]
      have hg := hg a w I.world I.apart hops
      simp only [ho, hw, if_true]
      refine .inl ?_
      unfold Oper.wp
      generalize (execOp a.eval o).run P w = r at hg
      cases r with
      | ok m w' =>
        cases m with
        | value u => exact ih _ _ _ (next u w' hg.1 hg.2.1 hg.2.2.1 hg.2.2.2)
        | skip =>
          refine ih _ _ _ (next undef w' hg.1 hg.2.1 (fun d hd => ?_) hg.2.2.2)
          rw [hg.2.2.1] at hd; cases hd
        | enter f args =>
          refine Calls.mono hg fun e w'' he => ?_
          obtain ⟨u, rfl, hC, hE, hd, hDD⟩ := he
          exact ih _ _ _ (next u w'' hC hE hd hDD)
        | _ => exact hg.elim
      | halt x w' => exact hg.elim

/-- The region: the first m0 operations by predicates, the others in their order. -/
theorem region {id : Nat} {l : List Oper} {a : Act} {w : World} (m0 : Nat) (C : World → Prop) (D : Act → World → Prop) (dsts : List Nat) (wri : List (Nat × Ssx.XP Ext)) (told : List (Tmp × Option Bool)) (hm : P.follows .mixedOrders = true) (hB : Ssa.okG l.toArray [] [] = true) (htl : tailB l.toArray m0 = true) (hm0 : m0 ≤ l.length)
    (hin : (l.all (Ssb.inB a.tmps.size)) = true) (htold : ∀ p ∈ told, ∀ v w, Ssx.ok a dsts wri p.1 v w ↔ v = Ssy.valOf p.2)
    (hd2 : (dsts.all fun d => decide (d < a.tmps.size) && (l.take m0).any fun o => o.dst == some d) = true) (hwr : (wri.all fun p => dsts.contains p.1) = true)
    (hr : ∀ w, Ext w w) (hC : C (w.drewN 1)) (hD : D a (w.drewN 1))
    (hgood : AllGood P C D Ext (Ssx.ok a dsts wri) l.toArray a.tmps.size told (l.take m0))
    (hQ : ∀ (vals : Nat → Value) (w' : World), C w' → D (Ssa.putAll a (dsts.map fun d => (d, vals d))) w' → (∀ p ∈ wri, Ssx.ok a dsts wri p.1 (vals p.1) w') → wpList P l.toArray Q (l.drop m0) (Ssa.putAll a (dsts.map fun d => (d, vals d))) w') : (Code.region id l.toArray true).wp P Q a w := by
  have hst : ∀ t v w w', Ssx.ok a dsts wri t v w → Ext w w' → Ssx.ok a dsts wri t v w' := by
    intro t v w w' h e
    unfold Ssx.ok at *
    cases hq : wri.lookup t with
    | some q => rw [hq] at h; exact q.st v w w' h e
    | none => rw [hq] at h; exact h
  have hnot : ∀ t, t ∉ dsts → wri.lookup t = none := by
    intro t ht
    cases hq : wri.lookup t with
    | none => rfl
    | some q =>
      have := List.all_eq_true.1 hwr _ (Ssx.lookup_mem hq)
      exact absurd (by simpa using this) ht
  have F := Ssa.fits_ofG hB
  refine wp_region_any hm (walk (Ext := Ext) (Ok := Ssx.ok a dsts wri) (n := a.tmps.size) (ds := a.defers) (told := told) (D := D) (m0 := m0) (by simpa using hm0) F htl (fun i o ho => List.all_eq_true.1 hin o (List.mem_of_getElem? (by simpa using ho)))
    (fun i o hi ho => allGood_at (l.take m0) hgood i o (by rw [List.getElem?_take, if_pos hi]; simpa using ho)) hr hst (fun t x hx => htold _ (Ssy.lookup_of hx)) ?_ _ _ _ _ ⟨by simp, by simp, hC, hD, rfl, rfl, ?_, ?_, ?_⟩)
  · intro a' w' hC' hD' hdef hsz hok
    have hall : ∀ d ∈ dsts, d < a.tmps.size := by
      intro d hd
      have h1 := List.all_eq_true.1 hd2 _ hd
      simp only [Bool.and_eq_true, decide_eq_true_eq] at h1
      exact h1.1
    have e : a' = Ssa.putAll a (dsts.map fun d => (d, a'.eval (.tmp d))) := by
      cases a' with
      | mk tmps' defers' =>
        unfold Ssa.putAll
        simp only [Act.mk.injEq]
        refine ⟨?_, hdef⟩
        apply Array.ext_getElem?
        intro t
        by_cases ht : t < a.tmps.size
        · have hsz' : tmps'.size = a.tmps.size := hsz
          have ht' : t < tmps'.size := by rw [hsz']; exact ht
          by_cases hd : t ∈ dsts
          · rw [Ssx.puts _ (fun d => ({ tmps := tmps', defers := defers' } : Act).eval (.tmp d)) dsts t hall hd]
            simp [Act.eval, ht']
          · rw [Ssa.putAll_other _ _ _ (by
              intro p hp e
              obtain ⟨e', he, rfl⟩ := List.mem_map.1 hp
              exact hd (e ▸ he))]
            have h1 := hok t ht
            unfold Ssx.ok at h1
            rw [hnot t hd, show dsts.contains t = false by simpa using hd] at h1
            simp [Act.eval, ht, ht'] at h1
            simp [ht, ht', h1]
        · have hsz' : tmps'.size = a.tmps.size := hsz
          rw [Array.getElem?_eq_none (by omega), Array.getElem?_eq_none (by rw [Ssa.putAll_size]; omega)]
    have hD2 := hD'
    rw [e] at hD2
    rw [e]
    refine hQ (fun d => a'.eval (.tmp d)) w' hC' hD2 fun p hp => ?_
    have hp1 := List.all_eq_true.1 hwr _ hp
    exact hok p.1 (hall _ (by simpa using hp1))
  · intro t ht hw
    have hun : ∀ (i : Nat) (o : Oper), i < m0 → l.toArray[i]? = some o → o.dst ≠ some t := by
      intro i o hi ho hd
      have := hw i o hi ho hd
      simp [Array.getElem?_replicate] at this
      split at this <;> simp_all
    have htd : t ∉ dsts := by
      intro h
      have h1 := List.all_eq_true.1 hd2 _ h
      simp only [Bool.and_eq_true] at h1
      obtain ⟨o, ho, he⟩ := List.any_eq_true.1 h1.2
      obtain ⟨i, hi, rfl⟩ := List.mem_iff_getElem.1 ho
      have hi2 : i < m0 ∧ i < l.length := by rw [List.length_take] at hi; omega
      exact hun i l[i] hi2.1 (by simp [hi2.2]) (by simpa using he)
    unfold Ssx.ok
    rw [hnot t htd, show dsts.contains t = false by simpa using htd]
  · intro j _
    simp [Array.getElem?_replicate]
    split <;> simp_all
  · intro k o ho hl
    simp [Array.getElem?_replicate] at hl
    split at hl <;> simp_all

/-- What the slots ps point to lies apart. -/
structure Apart (ps : List Nat) (a : Act) (w : World) : Prop where
  lt : ∀ s ∈ ps, ∀ x : Addr, a.eval (.tmp s) = .pointer (some x) → x.block < w.heap.size
  ne : ∀ s ∈ ps, ∀ t ∈ ps, s ≠ t → ∀ x y : Addr, a.eval (.tmp s) = .pointer (some x) → a.eval (.tmp t) = .pointer (some y) → x.block ≠ y.block
theorem Apart.put {ps : List Nat} {a : Act} {w w' : World} (h : Apart ps a w) (hs : w.heap.size ≤ w'.heap.size) {d : Option Nat} (hd : ∀ k, d = some k → k ∉ ps) (u : Value) : Apart ps (a.put d u) w' := by
  have e : ∀ s ∈ ps, (a.put d u).eval (.tmp s) = a.eval (.tmp s) := fun s hs' => Act.eval_put (by
    intro d' hd' he
    cases he
    exact hd _ hd' hs')
  refine ⟨fun s h1 x hx => ?_, fun s h1 t h2 hne x y hx hy => ?_⟩
  · rw [e s h1] at hx
    exact Nat.lt_of_lt_of_le (h.lt s h1 x hx) hs
  · rw [e s h1] at hx
    rw [e t h2] at hy
    exact h.ne s h1 t h2 hne x y hx hy
theorem Apart.new {ps : List Nat} {a : Act} {w w' : World} (h : Apart ps a w) {d : Nat} (hs : w.heap.size < w'.heap.size) : Apart ps (a.put (some d) (.pointer (some ⟨w.heap.size, 0, none⟩))) w' := by
  have e : ∀ s, s ≠ d → (a.put (some d) (.pointer (some ⟨w.heap.size, 0, none⟩))).eval (.tmp s) = a.eval (.tmp s) := fun s hs' => Act.eval_put (by
    intro d' hd' he
    cases he
    cases hd'
    exact hs' rfl)
  have e2 : ∀ x : Addr, (a.put (some d) (.pointer (some ⟨w.heap.size, 0, none⟩))).eval (.tmp d) = .pointer (some x) → x.block = w.heap.size := by
    intro x hx
    by_cases hd : d < a.tmps.size
    · simp [Act.put, Act.eval, hd] at hx
      rw [← hx]
    · simp [Act.put, Act.eval, hd, undef] at hx
  refine ⟨fun s h1 x hx => ?_, fun s h1 t h2 hne x y hx hy => ?_⟩
  · by_cases hsd : s = d
    · subst hsd
      rw [e2 x hx]; exact hs
    · rw [e s hsd] at hx
      exact Nat.lt_trans (h.lt s h1 x hx) hs
  · by_cases hsd : s = d
    · subst hsd
      have htd : t ≠ s := fun e => hne e.symm
      rw [e t htd] at hy
      have := h.lt t h2 y hy
      rw [e2 x hx]; omega
    · rw [e s hsd] at hx
      have h3 := h.lt s h1 x hx
      by_cases htd : t = d
      · subst htd
        rw [e2 y hy]; omega
      · rw [e t htd] at hy
        exact h.ne s h1 t h2 hne x y hx hy
/-- An operation that writes none of these slots. -/
theorem keep {ps : List Nat} {o : Oper} (h : Ssb.Good P C Ext Ok o) (hE : ∀ w w', Ext w w' → w.heap.size ≤ w'.heap.size) (hd : (match o.dst with | some d => !ps.contains d | none => true) = true) : GoodD P C (Apart ps) Ext Ok o :=
  good_lift h fun a w w' u hD he => hD.put (hE _ _ he) (fun k hk => by rw [hk] at hd; simpa using hd) u
/-- A new block of zeros. -/
theorem alloc {ps : List Nat} {o : Oper} {d : Nat} {ty : TypeId} {zs : List Value} (ho : o.op = .alloc ty) (hd : o.dst = some d) (hrun : ∀ w, (execOp (fun _ => undef) o).run P w = .ok (.value (.pointer (some ⟨w.heap.size, 0, none⟩))) (w.alloc (.cells zs.toArray ty)))
    (hC : ∀ w, C w → C (w.alloc (.cells zs.toArray ty))) (hE : ∀ w, Ext w (w.alloc (.cells zs.toArray ty))) (hOk : ∀ w, C w → Ok d (.pointer (some ⟨w.heap.size, 0, none⟩)) (w.alloc (.cells zs.toArray ty))) : GoodD P C (Apart ps) Ext Ok o := by
  intro a w hc hD hop
  have e : (execOp a.eval o).run P w = (execOp (fun _ => undef) o).run P w := by unfold execOp; simp only [ho]
  rw [e, hrun w]
  refine ⟨hC w hc, hE w, fun d' hd' => ?_, ?_⟩
  · rw [hd] at hd'
    obtain rfl := Option.some.inj hd'
    exact hOk w hc
  · rw [hd]
    exact hD.new (by show w.heap.size < (w.heap.push _).size; simp)
end
end Ssz
end Go.Proofs.YtjbpnhibgafdmaaDoor
