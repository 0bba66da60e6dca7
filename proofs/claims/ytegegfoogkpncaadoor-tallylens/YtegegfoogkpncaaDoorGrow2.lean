/-
  Integers of a whole slice appended to a slice of the call's own in a region that draws: what append gives, and what it leaves as it was.
-/
import Derived.Test.YtegegfoogkpncaaDoorGrow
namespace Go.Proofs.YtegegfoogkpncaaDoor
open Go.RowKit Pn
set_option linter.unusedVariables false

/-- Below B nothing has turned; the blocks of integers from B on hold what they held, but that the places from k on may hold ys now. -/
def PutS (B : Nat) (e : TypeId) (k : Nat) (ys : List Value) (w w' : World) : Prop :=
  Below B w w' ∧ ∀ g cs, B ≤ g → Row w g e cs → ∃ cs', Row w' g e cs' ∧ cs'.length = cs.length ∧ ∀ i, i < cs.length → cs'[i]? = cs[i]? ∨ (k ≤ i ∧ i < k + ys.length ∧ cs'[i]? = ys[i - k]?)
theorem PutS.of_old {B : Nat} {e : TypeId} {k : Nat} {ys : List Value} {w w' : World} (hB : B ≤ w.heap.size) (o : Old w w') : PutS B e k ys w w' :=
  ⟨Below.mono o hB, fun g cs hg R => ⟨cs, R.mono o, rfl, fun i _ => .inl rfl⟩⟩
theorem PutS.refl (B : Nat) (e : TypeId) (k : Nat) (ys : List Value) (w : World) : PutS B e k ys w w := ⟨Below.refl _ _, fun g cs _ R => ⟨cs, R, rfl, fun i _ => .inl rfl⟩⟩

/-- A slice of the call's own that begins with these cells. -/
def PLs (B : Nat) (e : TypeId) (k : Nat) (ys : List Value) (L : List Value) (hL : ∀ i, i < L.length → k ≤ i → i < k + ys.length → L[i]? = ys[i - k]?) : Ssx.XP (PutS B e k ys) :=
  ⟨fun v w => ∃ g sp, B ≤ g ∧ v = .slice (some ⟨g, 0, none⟩) L.length (L.length + sp.length) ∧ Row w g e (L ++ sp), fun v w w' ⟨g, sp, h0, h1, h2⟩ E => by
    obtain ⟨cs', R', hl, hi⟩ := E.2 g _ h0 h2
    rw [List.length_append] at hl hi
    have et : cs'.take L.length = L := by
      apply List.ext_getElem?
      intro i
      by_cases hil : i < L.length
      · rw [List.getElem?_take_of_lt hil]
        rcases hi i (by omega) with h | ⟨h, h', h''⟩
        · rw [h, List.getElem?_append_left hil]
        · rw [h'', hL i hil h h']
      · rw [List.getElem?_eq_none (by rw [List.length_take]; omega), List.getElem?_eq_none (by omega)]
    refine ⟨g, cs'.drop L.length, h0, ?_, ?_⟩
    · rw [h1, List.length_drop, hl]
      congr 1
      omega
    · rw [← et, List.length_take, Nat.min_eq_left (by omega), List.take_append_drop]
      exact R'⟩
def PEs (B : Nat) (e : TypeId) (k : Nat) (ys : List Value) : Ssx.XP (PutS B e k ys) :=
  ⟨fun v w => ∃ g, B ≤ g ∧ v = .slice (some ⟨g, 0, none⟩) 0 0 ∧ Row w g e [], fun v w w' ⟨g, h0, h1, h2⟩ E => by
    obtain ⟨cs', R', hl, _⟩ := E.2 g _ h0 h2
    have : cs' = [] := List.length_eq_zero_iff.1 hl
    subst this
    exact ⟨g, h0, h1, R'⟩⟩

/-- What an argument's slice hands to append. -/
theorem src_of {w : World} {b : Option Addr} {k ck : Nat} {xs : List Int} {i0 : TypeInfo} (i3 : i0.size = 1) (hk : xs.length = k) (hrd : Rd w b (ints xs)) : Src Tryd.prog i0.size 22 (.slice b k ck) k (ints xs) w := by
  cases b with
  | none =>
    have hx0 : xs = [] := by
      cases xs with
      | nil => rfl
      | cons y r =>
        obtain ⟨b, off, he, _⟩ := rd_int hrd (i := 0) (by simp)
        cases he
    subst hx0
    simp at hk
    subst hk
    exact Src.ofNil w Tryd.underlying22 ck
  | some ad =>
    refine Src.ofSlice w Tryd.underlying22 ad k ck (ints xs) (by rw [ints_length, hk, i3, Nat.mul_one]) (fun j u hj => ?_) (ints_one xs)
    obtain ⟨b2, off2, ha, hc⟩ := hrd j u hj
    obtain rfl := Option.some.inj ha
    rw [Addr.add_lit]; exact hc

section
variable {C : World → Prop} {Ok : Tmp → Value → World → Prop} {o : Oper} {d : Tmp}
theorem app0s {B k : Nat} {ys : List Value} (hB : ∀ w, C w → B ≤ w.heap.size) (hCo : ∀ w w', C w → Old w w' → C w') {s y : Tmp} (ho : o.op = .call { callee := .builtin .append, args := #[.tmp s, .tmp y], argTypes := #[22, 22] }) (hd : o.dst = some d)
    (b : Option Addr) (ck : Nat) (xs : List Int) (hk : xs.length = k) (hsm : k ≤ 1000000)
    (hs : ∀ v w, Ok s v w → (PEs B 3 k ys).p v w) (hy : ∀ v w, Ok y v w → v = .slice b k ck) (hrd : ∀ w, C w → Rd w b (ints xs))
    (h : ∀ v w, (PLs B 3 k ys (ints xs) (fun i hi e _ => by rw [ints_length] at hi; omega)).p v w → Ok d v w) : Ssb.Good Tryd.prog C (PutS B 3 k ys) Ok o := by
  refine Ssx.step hd fun a w hC hop => ?_
  obtain ⟨g, h0, h1, h2⟩ := hs _ _ (hop s (by rw [ho]; simp [Op.operands, Call.operands]))
  have h3 := hy _ _ (hop y (by rw [ho]; simp [Op.operands, Call.operands]))
  obtain ⟨i0, i1, i2, i3, i4⟩ := info_parts info_int
  have src := src_of (i0 := i0) (ck := ck) i3 hk (hrd w hC)
  rcases Nat.eq_zero_or_pos k with hk0 | hk0
  · have hx0 : xs = [] := List.length_eq_zero_iff.1 (by omega)
    subst hx0
    subst hk0
    have hrun := fun ty => run_append_nothing w 22 22 ty 3 i0 Tryd.underlying22 i1 (some ⟨g, 0, none⟩) 0 0 (Nat.le_refl _) (.slice b 0 ck) src
    refine ⟨.slice (some ⟨g, 0, none⟩) 0 0, w, ?_, hC, PutS.of_old (hB w hC) (Old.refl _), h _ _ ⟨g, [], h0, rfl, h2⟩⟩
    simp [execOp, ho, resolve, invoke, builtin, h1, h3, hrun, Result.andThen]
  · have hold : (Builtin.firstCells i0.size 0 (.slice (some ⟨g, 0, none⟩) 0 0)).run Tryd.prog w.drew = .ok ([] : List Value).toArray w.drew := run_firstCells_some w.drew i0.size 0 ⟨g, 0, none⟩ 0 0 [] (by simp) (by simp)
    obtain ⟨sp, w', hrun, R', O'⟩ := grow_ints w (some ⟨g, 0, none⟩) 0 0 [] xs (.slice b k ck) k i1 i2 i4 hold src (by omega) (by omega)
    rw [Nat.zero_add] at hrun
    refine ⟨_, w', ?_, hCo _ _ hC O', PutS.of_old (hB w hC) O', h (.slice (some ⟨w.heap.size, 0, none⟩) k (k + sp.length)) _ ⟨w.heap.size, sp, hB w hC, by rw [ints_length, hk], R'⟩⟩
    simp [execOp, ho, resolve, invoke, builtin, h1, h3, hrun, Result.andThen]

def setAll : List Value → Nat → List Value → List Value
  | cs, _, [] => cs
  | cs, o, v :: r => setAll (cs.set o v) (o + 1) r
theorem setAll_length : ∀ (news cs : List Value) (o : Nat), (setAll cs o news).length = cs.length
  | [], cs, o => rfl
  | v :: r, cs, o => by rw [setAll, setAll_length r]; simp
theorem setAll_get : ∀ (news cs : List Value) (o i : Nat), i < cs.length → (setAll cs o news)[i]? = if o ≤ i ∧ i < o + news.length then news[i - o]? else cs[i]?
  | [], cs, o, i, h => by rw [if_neg (by simp only [List.length_nil]; omega)]; rfl
  | v :: r, cs, o, i, h => by
    rw [setAll, setAll_get r (cs.set o v) (o + 1) i (by simpa using h)]
    by_cases h1 : i = o
    · subst h1
      rw [if_neg (by omega), if_pos (by simp), List.getElem?_set_self h]
      simp
    · by_cases h2 : o + 1 ≤ i ∧ i < o + 1 + r.length
      · rw [if_pos h2, if_pos (by simp; omega), show i - o = (i - (o + 1)) + 1 by omega]
        simp
      · rw [if_neg h2, if_neg (by simp; omega), List.getElem?_set_ne (fun e => h1 e.symm)]
theorem setAll_end (L news sp : List Value) (h : news.length ≤ sp.length) : setAll (L ++ sp) L.length news = L ++ news ++ sp.drop news.length := by
  apply List.ext_getElem?
  intro i
  by_cases hi : i < (L ++ sp).length
  · rw [setAll_get news _ _ i hi]
    rw [List.length_append] at hi
    by_cases h1 : i < L.length
    · rw [if_neg (by omega), List.getElem?_append_left h1, List.append_assoc, List.getElem?_append_left h1]
    · by_cases h2 : i < L.length + news.length
      · rw [if_pos ⟨by omega, h2⟩, List.append_assoc, List.getElem?_append_right (by omega), List.getElem?_append_left (by omega)]
      · rw [if_neg (by omega), List.getElem?_append_right (by omega), List.append_assoc, List.getElem?_append_right (by omega), List.getElem?_append_right (by omega), List.getElem?_drop]
        congr 1
        omega
  · rw [List.getElem?_eq_none (by rw [setAll_length]; omega), List.getElem?_eq_none (by simp at hi ⊢; omega)]
theorem setCells_row {g : Nat} {t : TypeId} : ∀ (news : List Value) (o : Nat) (w : World) (cs : List Value), Row w g t cs → Row (w.setCells g o news) g t (setAll cs o news)
  | [], o, w, cs, R => R
  | v :: r, o, w, cs, R => setCells_row r (o + 1) (w.setCell ⟨g, o, none⟩ v) (cs.set o v) (R.set o v)
theorem setCells_grown {g : Nat} : ∀ (news : List Value) (o : Nat) (w : World), w.grownBy (w.setCells g o news) (some g)
  | [], o, w => World.grownBy.refl _ _
  | v :: r, o, w => (grown_set w g o v).trans (setCells_grown r (o + 1) (w.setCell ⟨g, o, none⟩ v))

/-- append(those, others...): a slice of the call's own that begins with both. -/
theorem appS {B k m : Nat} {ys : List Int} (hB : ∀ w, C w → B ≤ w.heap.size) (hCp : ∀ w w', C w → PutS B 3 k (ints ys) w w' → C w') {s y : Tmp} (ho : o.op = .call { callee := .builtin .append, args := #[.tmp s, .tmp y], argTypes := #[22, 22] }) (hd : o.dst = some d)
    (xs : List Int) (hk : xs.length = k) (b : Option Addr) (cm : Nat) (hm : ys.length = m) (hsm : k + m ≤ 1000000)
    (hs : ∀ v w, Ok s v w → (PLs B 3 k (ints ys) (ints xs) (fun i hi e _ => by rw [ints_length] at hi; omega)).p v w) (hy : ∀ v w, Ok y v w → v = .slice b m cm) (hrd : ∀ w, C w → Rd w b (ints ys))
    (h : ∀ v w, (PLs B 3 k (ints ys) (ints (xs ++ ys)) (fun i hi e _ => by unfold ints; rw [List.map_append, List.getElem?_append_right (by simp; omega)]; congr 1; simp; omega)).p v w → Ok d v w) : Ssb.Good Tryd.prog C (PutS B 3 k (ints ys)) Ok o := by
  refine Ssx.step hd fun a w hC hop => ?_
  obtain ⟨g, sp, h0, h1, h2⟩ := hs _ _ (hop s (by rw [ho]; simp [Op.operands, Call.operands]))
  have h3 := hy _ _ (hop y (by rw [ho]; simp [Op.operands, Call.operands]))
  obtain ⟨i0, i1, i2, i3, i4⟩ := info_parts info_int
  rw [ints_length, hk] at h1
  have src := src_of (i0 := i0) (ck := cm) i3 hm (hrd w hC)
  have eap : ints (xs ++ ys) = ints xs ++ ints ys := by simp [ints]
  by_cases hroom : k + m ≤ k + sp.length
  · have hrun := fun ty => run_append_room_src w 22 22 ty 3 i0 Tryd.underlying22 i1 g 0 k (k + sp.length) (.slice b m cm) m (ints ys) src hroom
      (fun j hj => by
        rw [ints_length] at hj
        have hlt : k + j < (ints xs ++ sp).length := by rw [List.length_append, ints_length]; omega
        rw [i3, h2.cell (i := 0 + k * 1 + j) (v := (ints xs ++ sp)[k + j]) (by simp)]
        rfl) (fun j hj => h2.free _)
    rw [i3, Nat.mul_one, Nat.zero_add] at hrun
    have R' := setCells_row (ints ys) k w _ h2
    rw [show k = (ints xs).length by rw [ints_length, hk], setAll_end (ints xs) (ints ys) sp (by rw [ints_length]; omega), ← eap, ints_length, hk] at R'
    have E : PutS B 3 k (ints ys) w (w.setCells g k (ints ys)) := by
      refine ⟨Below.grown (Below.refl _ _) (setCells_grown (ints ys) k w) (hB w hC) (fun q e => by cases e; exact h0), fun q cs hq R => ?_⟩
      by_cases hqg : q = g
      · subst hqg
        refine ⟨setAll cs k (ints ys), setCells_row _ _ _ _ R, setAll_length _ _ _, fun i hi => ?_⟩
        rw [setAll_get _ _ _ i hi]
        split
        · rename_i hc
          right
          exact ⟨hc.1, hc.2, rfl⟩
        · left; rfl
      · exact ⟨cs, R.grown (setCells_grown _ _ _) hqg, rfl, fun i _ => .inl rfl⟩
    refine ⟨_, _, ?_, hCp _ _ hC E, E, h (.slice (some ⟨g, 0, none⟩) (k + m) (k + sp.length)) _ ⟨g, sp.drop (ints ys).length, h0, ?_, R'⟩⟩
    · simp [execOp, ho, resolve, invoke, builtin, h1, h3, hrun, Result.andThen]
    · rw [ints_length, List.length_append, hk, List.length_drop, ints_length, hm]
      congr 1
      omega
  · have hold : (Builtin.firstCells i0.size k (.slice (some ⟨g, 0, none⟩) k (k + sp.length))).run Tryd.prog w.drew = .ok (ints xs).toArray w.drew :=
      run_firstCells_some w.drew i0.size k ⟨g, 0, none⟩ k (k + sp.length) (ints xs) (by rw [ints_length, hk, i3, Nat.mul_one]) (fun j u hj => by
        rw [Addr.add_lit, Nat.zero_add]
        have := h2.cell (i := j) (v := u) (by rw [List.getElem?_append_left (List.getElem?_eq_some_iff.1 hj).1]; exact hj)
        simpa using this)
    obtain ⟨sq, w', hrun, R', O'⟩ := grow_ints w (some ⟨g, 0, none⟩) k (k + sp.length) xs ys (.slice b m cm) m i1 i2 i4 hold src (by omega) (by omega)
    have E := PutS.of_old (e := 3) (k := k) (ys := ints ys) (hB w hC) O'
    refine ⟨_, w', ?_, hCp _ _ hC E, E, h (.slice (some ⟨w.heap.size, 0, none⟩) (k + m) (k + m + sq.length)) _ ⟨w.heap.size, sq, hB w hC, ?_, ?_⟩⟩
    · simp [execOp, ho, resolve, invoke, builtin, h1, h3, hrun, Result.andThen]
    · rw [ints_length, List.length_append, hk, hm]
    · rw [eap]
      exact R'
end
end Go.Proofs.YtegegfoogkpncaaDoor
