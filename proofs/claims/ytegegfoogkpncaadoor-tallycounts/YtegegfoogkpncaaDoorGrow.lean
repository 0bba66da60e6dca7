/-
  Integers appended to a slice of the call's own in a region that draws: what append gives, and what it leaves as it was.
-/
import Derived.Test.YtegegfoogkpncaaDoorElem
import Derived.Deep.AppendSrc
import Derived.Deep.Upon
import Derived.Laws.AppendOwn
namespace Go.Proofs.YtegegfoogkpncaaDoor
open Go.RowKit Pn
set_option linter.unusedVariables false

/-- Below B nothing has turned; the blocks of integers from B on hold what they held, but that place k may hold x now. -/
def Put (B : Nat) (e : TypeId) (k : Nat) (x : Value) (w w' : World) : Prop :=
  Below B w w' ∧ ∀ g cs, B ≤ g → Row w g e cs → ∃ cs', Row w' g e cs' ∧ cs'.length = cs.length ∧ ∀ i, i < cs.length → cs'[i]? = cs[i]? ∨ (i = k ∧ cs'[i]? = some x)
theorem Put.of_old {B : Nat} {e : TypeId} {k : Nat} {x : Value} {w w' : World} (hB : B ≤ w.heap.size) (o : Old w w') : Put B e k x w w' :=
  ⟨Below.mono o hB, fun g cs hg R => ⟨cs, R.mono o, rfl, fun i _ => .inl rfl⟩⟩
theorem Put.refl (B : Nat) (e : TypeId) (k : Nat) (x : Value) (w : World) : Put B e k x w w := ⟨Below.refl _ _, fun g cs _ R => ⟨cs, R, rfl, fun i _ => .inl rfl⟩⟩

section
variable {B : Nat} {e : TypeId} {k : Nat} {x : Value}
/-- A slice of the call's own that begins with these cells. -/
def PL (B : Nat) (e : TypeId) (k : Nat) (x : Value) (L : List Value) (hL : ∀ i, i < L.length → i = k → L[i]? = some x) : Ssx.XP (Put B e k x) :=
  ⟨fun v w => ∃ g sp, B ≤ g ∧ v = .slice (some ⟨g, 0, none⟩) L.length (L.length + sp.length) ∧ Row w g e (L ++ sp), fun v w w' ⟨g, sp, h0, h1, h2⟩ E => by
    obtain ⟨cs', R', hl, hi⟩ := E.2 g _ h0 h2
    rw [List.length_append] at hl hi
    have et : cs'.take L.length = L := by
      apply List.ext_getElem?
      intro i
      by_cases hil : i < L.length
      · rw [List.getElem?_take_of_lt hil]
        rcases hi i (by omega) with h | ⟨h, h'⟩
        · rw [h, List.getElem?_append_left hil]
        · rw [h', hL i hil h]
      · rw [List.getElem?_eq_none (by rw [List.length_take]; omega), List.getElem?_eq_none (by omega)]
    refine ⟨g, cs'.drop L.length, h0, ?_, ?_⟩
    · rw [h1, List.length_drop, hl]
      congr 1
      omega
    · rw [← et, List.length_take, Nat.min_eq_left (by omega), List.take_append_drop]
      exact R'⟩
/-- An empty one, with no room. -/
def PE (B : Nat) (e : TypeId) (k : Nat) (x : Value) : Ssx.XP (Put B e k x) :=
  ⟨fun v w => ∃ g, B ≤ g ∧ v = .slice (some ⟨g, 0, none⟩) 0 0 ∧ Row w g e [], fun v w w' ⟨g, h0, h1, h2⟩ E => by
    obtain ⟨cs', R', hl, _⟩ := E.2 g _ h0 h2
    have : cs' = [] := List.length_eq_zero_iff.1 hl
    subst this
    exact ⟨g, h0, h1, R'⟩⟩
end

theorem ints_one (es : List Int) : ∀ v ∈ ints es, v.oneCell' = true := by
  intro v hv
  obtain ⟨z, _, rfl⟩ := List.mem_map.1 hv
  rfl
theorem info_int : (Tryd.prog.info? 3).map (fun i => (i.zero, i.size, i.bytes)) = some (some (.int .i64 0), 1, 8) := by kernel_rfl

section
variable {C : World → Prop} {Ok : Tmp → Value → World → Prop} {o : Oper} {d : Tmp}
/-- A new block: more cells, then zeros. -/
theorem row_grown (w : World) (L : List Value) (z : Array Value) (e : TypeId) : Row (w.drew.alloc (.cells (L.toArray ++ z) e)) w.heap.size e (L ++ z.toList) := by
  have := Row.new w.drew e (L ++ z.toList)
  have e1 : (L ++ z.toList).toArray = L.toArray ++ z := by apply Array.ext'; simp
  rw [e1] at this
  exact this

theorem zeros_size (m : Nat) : (Builtin.zeroCells (Value.int .i64 0).cells m).size = m := by
  simp [Builtin.zeroCells, Value.cells]
/-- Where there is no room: a new block. -/
theorem grow_ints (w : World) (base : Option Addr) (sLen sCap : Nat) (olds news : List Int) (y : Value) (n : Nat) {i0 : TypeInfo} (i1 : Tryd.prog.info? 3 = some i0) (i2 : i0.zero = some (.int .i64 0)) (i4 : i0.bytes = 8)
    (hold : (Builtin.firstCells i0.size sLen (.slice base sLen sCap)).run Tryd.prog w.drew = .ok (ints olds).toArray w.drew) (src : Src Tryd.prog i0.size 22 y n (ints news) w) (hg : sCap < sLen + n) (hsm : sLen + n ≤ 1000001) :
    ∃ sp w', (∀ ty, (Builtin.append_ #[22, 22] ty #[.slice base sLen sCap, y]).run Tryd.prog w = .ok (.slice (some ⟨w.heap.size, 0, none⟩) (sLen + n) (sLen + n + sp.length)) w') ∧ Row w' w.heap.size 3 (ints olds ++ ints news ++ sp) ∧ Old w w' := by
  have hrun := fun ty => run_append_grow_src w 22 22 ty 3 i0 (.int .i64 0) Tryd.underlying22 i1 i2 base sLen sCap (ints olds) hold y n (ints news) src hg (by omega) (growslice_fits hg (by rw [i4]; omega))
  have ge := grownCap_ge w (sLen + n) sCap 3
  refine ⟨(Builtin.zeroCells (Value.int .i64 0).cells (grownCap w (sLen + n) sCap 3 - (sLen + n))).toList, _, fun ty => ?_, row_grown w (ints olds ++ ints news) _ _, (Old.refl w).drew.alloc _⟩
  rw [hrun ty]
  congr 2
  rw [Array.length_toList, zeros_size]
  omega

/-- append([]int{}, samples...): a new slice that begins with them. -/
theorem app0 {B k : Nat} {x : Value} (hB : ∀ w, C w → B ≤ w.heap.size) (hCo : ∀ w w', C w → Old w w' → C w') {s y : Tmp} (ho : o.op = .call { callee := .builtin .append, args := #[.tmp s, .tmp y], argTypes := #[22, 22] }) (hd : o.dst = some d)
    (b : Option Addr) (ck : Nat) (xs : List Int) (hk : xs.length = k) (hsm : k ≤ 1000000)
    (hs : ∀ v w, Ok s v w → (PE B 3 k x).p v w) (hy : ∀ v w, Ok y v w → v = .slice b k ck) (hrd : ∀ w, C w → Rd w b (ints xs))
    (h : ∀ v w, (PL B 3 k x (ints xs) (fun i hi e => by rw [ints_length] at hi; omega)).p v w → Ok d v w) : Ssb.Good Tryd.prog C (Put B 3 k x) Ok o := by
  refine Ssx.step hd fun a w hC hop => ?_
  obtain ⟨g, h0, h1, h2⟩ := hs _ _ (hop s (by rw [ho]; simp [Op.operands, Call.operands]))
  have h3 := hy _ _ (hop y (by rw [ho]; simp [Op.operands, Call.operands]))
  obtain ⟨i0, i1, i2, i3, i4⟩ := info_parts info_int
  rcases Nat.eq_zero_or_pos k with hk0 | hk0
  · have hx0 : xs = [] := List.length_eq_zero_iff.1 (by omega)
    have src : Src Tryd.prog i0.size 22 (.slice b k ck) 0 [] w := by
      rw [hk0]
      cases b with
      | none => exact Src.ofNil w Tryd.underlying22 ck
      | some ad => exact Src.ofSlice w Tryd.underlying22 ad 0 ck [] (by simp) (by simp) (by simp)
    have hrun := fun ty => run_append_nothing w 22 22 ty 3 i0 Tryd.underlying22 i1 (some ⟨g, 0, none⟩) 0 0 (Nat.le_refl _) (.slice b k ck) src
    refine ⟨.slice (some ⟨g, 0, none⟩) 0 0, w, ?_, hC, Put.of_old (hB w hC) (Old.refl _), h _ _ ⟨g, [], h0, ?_, ?_⟩⟩
    · simp [execOp, ho, resolve, invoke, builtin, h1, h3, hrun, Result.andThen]
    · rw [hx0]; rfl
    · rw [hx0]; exact h2
  · have hrd' := hrd w hC
    obtain ⟨b1, off, rfl, _⟩ := rd_int hrd' (i := 0) (by omega)
    have src : Src Tryd.prog i0.size 22 (.slice (some ⟨b1, off, none⟩) k ck) k (ints xs) w :=
      Src.ofSlice w Tryd.underlying22 ⟨b1, off, none⟩ k ck (ints xs) (by rw [ints_length, hk, i3, Nat.mul_one]) (fun j u hj => by
        obtain ⟨b2, off2, ha, hc⟩ := hrd' j u hj
        obtain ⟨rfl, rfl⟩ : b1 = b2 ∧ off = off2 := by simpa using ha
        rw [Addr.add_lit]; exact hc) (ints_one xs)
    have hold : (Builtin.firstCells i0.size 0 (.slice (some ⟨g, 0, none⟩) 0 0)).run Tryd.prog w.drew = .ok ([] : List Value).toArray w.drew := run_firstCells_some w.drew i0.size 0 ⟨g, 0, none⟩ 0 0 [] (by simp) (by simp)
    obtain ⟨sp, w', hrun, R', O'⟩ := grow_ints w (some ⟨g, 0, none⟩) 0 0 [] xs (.slice (some ⟨b1, off, none⟩) k ck) k i1 i2 i4 hold src (by omega) (by omega)
    rw [Nat.zero_add] at hrun
    refine ⟨_, w', ?_, hCo _ _ hC O', Put.of_old (hB w hC) O', h (.slice (some ⟨w.heap.size, 0, none⟩) k (k + sp.length)) _ ⟨w.heap.size, sp, hB w hC, by rw [ints_length, hk], R'⟩⟩
    simp [execOp, ho, resolve, invoke, builtin, h1, h3, hrun, Result.andThen]

/-- append(those, x): a slice of the call's own that begins with them and x. -/
theorem app1 {B k : Nat} {x : Int} (hB : ∀ w, C w → B ≤ w.heap.size) (hCp : ∀ w w', C w → Put B 3 k (.int .i64 x) w w' → C w') {s y : Tmp} (ho : o.op = .call { callee := .builtin .append, args := #[.tmp s, .tmp y], argTypes := #[22, 22] }) (hd : o.dst = some d)
    (xs : List Int) (hk : xs.length = k) (hsm : k ≤ 1000000)
    (hs : ∀ v w, Ok s v w → (PL B 3 k (.int .i64 x) (ints xs) (fun i hi e => by rw [ints_length] at hi; omega)).p v w) (hy : ∀ v w, Ok y v w → (PL B 3 k (.int .i64 x) [.int .i64 x] (fun i hi e => by simp at hi; subst hi; rfl)).p v w)
    (h : ∀ v w, (PL B 3 k (.int .i64 x) (ints (xs ++ [x])) (fun i hi e => by simp [ints, e, ← hk])).p v w → Ok d v w) : Ssb.Good Tryd.prog C (Put B 3 k (.int .i64 x)) Ok o := by
  refine Ssx.step hd fun a w hC hop => ?_
  obtain ⟨g, sp, h0, h1, h2⟩ := hs _ _ (hop s (by rw [ho]; simp [Op.operands, Call.operands]))
  obtain ⟨g', sp', h0', h1', h2'⟩ := hy _ _ (hop y (by rw [ho]; simp [Op.operands, Call.operands]))
  obtain ⟨i0, i1, i2, i3, i4⟩ := info_parts info_int
  rw [ints_length, hk] at h1
  simp only [List.length_cons, List.length_nil, Nat.zero_add] at h1'
  have src : Src Tryd.prog i0.size 22 (.slice (some ⟨g', 0, none⟩) 1 (1 + sp'.length)) 1 (ints [x]) w :=
    Src.ofSlice w Tryd.underlying22 ⟨g', 0, none⟩ 1 _ (ints [x]) (by simp [ints, i3]) (fun j u hj => by
      rw [Addr.add_lit, Nat.zero_add]
      refine h2'.cell ?_
      have hj0 : j < 1 := by have := (List.getElem?_eq_some_iff.1 hj).1; simpa [ints] using this
      rw [List.getElem?_append_left (by simpa using hj0)]
      simpa [ints] using hj) (ints_one [x])
  by_cases hroom : k + 1 ≤ k + sp.length
  · have hlt : k < (ints xs ++ sp).length := by rw [List.length_append, ints_length]; omega
    have hrun := fun ty => run_append_room_src w 22 22 ty 3 i0 Tryd.underlying22 i1 g 0 k (k + sp.length) (.slice (some ⟨g', 0, none⟩) 1 (1 + sp'.length)) 1 (ints [x]) src hroom
      (fun j hj => by
        have hj0 : j = 0 := by simp [ints] at hj; exact hj
        subst hj0
        rw [i3, h2.cell (i := 0 + k * 1 + 0) (v := (ints xs ++ sp)[k]) (by simp)]
        rfl) (fun j hj => h2.free _)
    have eset : (ints xs ++ sp).set k (.int .i64 x) = ints (xs ++ [x]) ++ sp.tail := by
      cases sp with
      | nil => simp only [List.length_nil] at hroom; omega
      | cons a r => simp [ints, ← hk, List.set_append_right]
    have hw : w.setCells g (0 + k * i0.size) (ints [x]) = w.setCell ⟨g, k, none⟩ (.int .i64 x) := by
      rw [i3]; simp [ints, World.setCells]
    rw [hw] at hrun
    have R' : Row (w.setCell ⟨g, k, none⟩ (.int .i64 x)) g 3 (ints (xs ++ [x]) ++ sp.tail) := by rw [← eset]; exact h2.set k _
    have E : Put B 3 k (.int .i64 x) w (w.setCell ⟨g, k, none⟩ (.int .i64 x)) := by
      refine ⟨Below.grown (Below.refl _ _) (grown_set w g k _) (hB w hC) (fun q e => by cases e; exact h0), fun q cs hq R => ?_⟩
      by_cases hqg : q = g
      · subst hqg
        refine ⟨cs.set k (.int .i64 x), R.set k _, List.length_set, fun i hi => ?_⟩
        by_cases hik : i = k
        · subst hik
          right
          exact ⟨rfl, by simp [hi]⟩
        · left
          rw [List.getElem?_set_ne (fun h => hik h.symm)]
      · exact ⟨cs, R.grown (grown_set _ _ _ _) hqg, rfl, fun i _ => .inl rfl⟩
    refine ⟨_, _, ?_, hCp _ _ hC E, E, h (.slice (some ⟨g, 0, none⟩) (k + 1) (k + sp.length)) _ ⟨g, sp.tail, h0, ?_, R'⟩⟩
    · simp [execOp, ho, resolve, invoke, builtin, h1, h1', hrun, Result.andThen]
    · rw [ints_length, List.length_append, hk, List.length_tail]
      simp only [List.length_cons, List.length_nil]
      congr 1
      omega
  · have hsp : sp = [] := List.length_eq_zero_iff.1 (by omega)
    subst hsp
    simp only [List.length_nil, Nat.add_zero] at h1
    have hold : (Builtin.firstCells i0.size k (.slice (some ⟨g, 0, none⟩) k k)).run Tryd.prog w.drew = .ok (ints xs).toArray w.drew :=
      run_firstCells_some w.drew i0.size k ⟨g, 0, none⟩ k k (ints xs) (by rw [ints_length, hk, i3, Nat.mul_one]) (fun j u hj => by
        rw [Addr.add_lit, Nat.zero_add]
        have := h2.cell (i := j) (v := u) (by rw [List.append_nil]; exact hj)
        simpa using this)
    obtain ⟨sq, w', hrun, R', O'⟩ := grow_ints w (some ⟨g, 0, none⟩) k k xs [x] (.slice (some ⟨g', 0, none⟩) 1 (1 + sp'.length)) 1 i1 i2 i4 hold src (by omega) (by omega)
    have E := Put.of_old (e := 3) (k := k) (x := .int .i64 x) (hB w hC) O'
    refine ⟨_, w', ?_, hCp _ _ hC E, E, h (.slice (some ⟨w.heap.size, 0, none⟩) (k + 1) (k + 1 + sq.length)) _ ⟨w.heap.size, sq, hB w hC, ?_, ?_⟩⟩
    · simp [execOp, ho, resolve, invoke, builtin, h1, h1', hrun, Result.andThen]
    · rw [ints_length, List.length_append, hk]
      rfl
    · have : ints (xs ++ [x]) = ints xs ++ ints [x] := by simp [ints]
      rw [this]
      exact R'
end
end Go.Proofs.YtegegfoogkpncaaDoor
