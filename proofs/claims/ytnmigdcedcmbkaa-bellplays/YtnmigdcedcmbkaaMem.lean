/-
  Memory in words of my own: 'Rd' (what a slice's places hold), 'Row' (a block known whole, that may be written), and how both go on behind calls that change nothing old.
-/
import Derived.WalkKit
import Derived.WalkSpells
import Derived.Laws.CopyOwn
import Derived.OpenShut
import Derived.Deep.QuietTactic
import Derived.BigQuiet
namespace Go.Proofs.Ytnmigdcedcmbkaa
open Go.RowKit
set_option linter.unusedVariables false

theorem hide {p : Prop} (h : p) : Hid p := h

/-- Behind the address a lie the values vs, one a cell. -/
def Rd (w : World) (a : Option Addr) (vs : List Value) : Prop :=
  ∀ i v, vs[i]? = some v → ∃ b off, a = some ⟨b, off, none⟩ ∧ w.cell? ⟨b, off + i, none⟩ = some v

/-- Block g is known whole: the cells vs, none of them frozen. -/
def Row (w : World) (g : Nat) (t : TypeId) (vs : List Value) : Prop := w.heap[g]? = some (.cells vs.toArray t (0, 0))

/-- Numbers as cells. -/
def nums (k : IntKind) (zs : List Nat) : List Value := zs.map fun (z : Nat) => Value.int k (z : Int)

/-- Nothing that was there has turned. -/
def Old (w w' : World) : Prop := Below w.heap.size w w'

theorem Old.refl (w : World) : Old w w := Below.refl _ _
theorem Old.size {a b : World} (h : Old a b) : a.heap.size ≤ b.heap.size := Below.size h
theorem Old.trans {a b c : World} (h : Old a b) (k : Old b c) : Old a c := Below.trans h (Below.mono k h.size)
theorem Old.drew {a b : World} (h : Old a b) : Old a b.drew := Below.drew h
theorem Old.drewN {a b : World} (h : Old a b) (n : Nat) : Old a (b.drewN n) := ⟨h.os, h.tape, h.output, h.size, h.block⟩
theorem Old.alloc {a b : World} (h : Old a b) (o : Obj) : Old a (b.alloc o) := Below.alloc h h.size o
theorem Old.below {a b : World} (h : Old a b) : Below a.heap.size a b := h
theorem Old.of_alloc (w : World) (o : Obj) : Old w (w.alloc o) := (Old.refl w).alloc o
theorem Old.of_drewN (w : World) (n : Nat) : Old w (w.drewN n) := (Old.refl w).drewN n
theorem Old.grown {a b c : World} {g : Nat} (h : Old a b) (hg : b.grownBy c (some g)) (hb : a.heap.size ≤ g) : Old a c :=
  Below.grown h hg h.size (fun k e => by cases e; exact hb)

theorem Rd.mono {w w' : World} {a : Option Addr} {vs : List Value} (h : Rd w a vs) (o : Old w w') : Rd w' a vs := by
  intro i v hv
  obtain ⟨b, off, ha, hc⟩ := h i v hv
  exact ⟨b, off, ha, (Below.cell o (World.block_lt_of_cell? w _ hc)).trans hc⟩
theorem Rd.nil {w : World} (a : Option Addr) : Rd w a [] := by intro i v hv; simp at hv
theorem Rd.lt {w : World} {a : Option Addr} {vs : List Value} (h : Rd w a vs) {x : Addr} (hx : a = some x) (hp : 0 < vs.length) : x.block < w.heap.size := by
  obtain ⟨b, off, ha, hc⟩ := h 0 vs[0] (by simp [hp])
  subst hx
  obtain rfl := Option.some.inj ha
  exact World.block_lt_of_cell? w _ hc
theorem Rd.grown {w w' : World} {a : Option Addr} {vs : List Value} {g : Nat} (h : Rd w a vs) (hg : w.grownBy w' (some g)) (hne : ∀ x, 0 < vs.length → a = some x → x.block ≠ g) : Rd w' a vs := by
  intro i v hv
  obtain ⟨b, off, ha, hc⟩ := h i v hv
  refine ⟨b, off, ha, hg.cell hc ?_⟩
  intro e
  exact hne _ (by have := (List.getElem?_eq_some_iff.1 hv).1; omega) ha (by simpa using e)

theorem Rd.num {w : World} {a : Option Addr} {k : IntKind} {zs : List Nat} (h : Rd w a (nums k zs)) {i : Nat} (hi : i < zs.length) :
    ∃ b off z, a = some ⟨b, off, none⟩ ∧ Hid (zs[i]? = some z) ∧ w.cell? ⟨b, off + i, none⟩ = some (.int k (z : Int)) := by
  obtain ⟨b, off, ha, hc⟩ := h i (.int k (zs[i] : Int)) (by simp [nums, hi])
  exact ⟨b, off, zs[i], ha, by show zs[i]? = some zs[i]; simp [hi], hc⟩

theorem nums_length (k : IntKind) (zs : List Nat) : (nums k zs).length = zs.length := by simp [nums]
theorem nums_set (k : IntKind) (zs : List Nat) (i z : Nat) : (nums k zs).set i (.int k (z : Int)) = nums k (zs.set i z) := by
  simp [nums, List.map_set]
theorem nums_oneCell (k : IntKind) (zs : List Nat) : ∀ v ∈ nums k zs, v.oneCell' = true := by
  intro v hv
  obtain ⟨_, _, rfl⟩ := List.mem_map.1 hv
  rfl

theorem Row.lt {w : World} {g : Nat} {t : TypeId} {vs : List Value} (h : Row w g t vs) : g < w.heap.size := (Array.getElem?_eq_some_iff.1 h).1
theorem Row.cell {w : World} {g : Nat} {t : TypeId} {vs : List Value} (h : Row w g t vs) {i : Nat} {v : Value} (hv : vs[i]? = some v) : w.cell? ⟨g, i, none⟩ = some v := by
  unfold Row at h
  simp [World.cell?, h, hv]
theorem Row.num {w : World} {g : Nat} {t : TypeId} {k : IntKind} {zs : List Nat} (h : Row w g t (nums k zs)) {i : Nat} (hi : i < zs.length) :
    ∃ z, Hid (zs[i]? = some z) ∧ w.cell? ⟨g, i, none⟩ = some (.int k (z : Int)) :=
  ⟨zs[i], by show zs[i]? = some zs[i]; simp [hi], h.cell (by simp [nums, hi])⟩
theorem Row.free {w : World} {g : Nat} {t : TypeId} {vs : List Value} (h : Row w g t vs) (i : Nat) : w.frozen? ⟨g, i, none⟩ = false := by
  unfold Row at h
  simp [World.frozen?, h]
theorem Row.rd {w : World} {g : Nat} {t : TypeId} {vs : List Value} (h : Row w g t vs) : Rd w (some ⟨g, 0, none⟩) vs := by
  intro i v hv
  exact ⟨g, 0, rfl, by simpa using h.cell hv⟩
theorem Row.new (w : World) (t : TypeId) (vs : List Value) : Row (w.alloc (.cells vs.toArray t)) w.heap.size t vs := by
  show (w.heap.push _)[w.heap.size]? = _
  simp
theorem Row.set {w : World} {g : Nat} {t : TypeId} {vs : List Value} (h : Row w g t vs) (i : Nat) (v : Value) : Row (w.setCell ⟨g, i, none⟩ v) g t (vs.set i v) := by
  unfold Row at *
  simp [World.setCell, h, Array.getElem?_modify]
theorem Row.mono {w w' : World} {g : Nat} {t : TypeId} {vs : List Value} (h : Row w g t vs) (o : Old w w') : Row w' g t vs :=
  (o.block g h.lt).trans h
theorem Row.grown {w w' : World} {g g' : Nat} {t : TypeId} {vs : List Value} (h : Row w g t vs) (hg : w.grownBy w' (some g')) (hne : g ≠ g') : Row w' g t vs :=
  (hg.block g h.lt (by simpa using hne)).trans h
theorem Row.drewN {w : World} {g : Nat} {t : TypeId} {vs : List Value} (h : Row w g t vs) (n : Nat) : Row (w.drewN n) g t vs := h

theorem grown_set (w : World) (g i : Nat) (v : Value) : w.grownBy (w.setCell ⟨g, i, none⟩ v) (some g) :=
  ⟨rfl, rfl, rfl, by simp, fun k _ hk => Below.heap_setCell _ _ _ _ (by simpa using hk)⟩
theorem grown_trans {a b c : World} {g : Option Nat} (h : a.grownBy b g) (k : b.grownBy c g) : a.grownBy c g :=
  ⟨k.os.trans h.os, k.tape.trans h.tape, k.output.trans h.output, Nat.le_trans h.size k.size, fun i hi hn => (k.block i (Nat.lt_of_lt_of_le hi h.size) hn).trans (h.block i hi hn)⟩
theorem grown_old {a b : World} (h : Old a b) (g : Option Nat) : a.grownBy b g := ⟨h.os, h.tape, h.output, h.size, fun i hi _ => h.block i hi⟩

theorem addr_none {w : World} {x : Addr} {v : Value} (h : w.cell? (x.add 0) = some v) : x.spot = none := by
  have e : x.add 0 = x := by unfold Addr.add; simp
  rw [e] at h
  unfold World.cell? at h
  split at h
  · cases hs : x.spot with
    | none => rfl
    | some s => simp [hs] at h
  · simp at h

/-- The elements as numbers of their kind. -/
theorem rd_of_ints {k : IntKind} {B : Nat} (hk : ∀ n, (Lit.int k n).wf = true → 0 ≤ n ∧ n < B) {w : World} {x : Addr} {len cap : Nat} {zs : List Int} (hl : len ≤ cap) (hz : zs.length = cap)
    (hc : ∀ i, i < cap → w.cell? (x.add i) = some (.int k (zs.getD i 0))) (hw : ∀ n ∈ zs, (Lit.int k n).wf = true) :
    ∃ xs : List Nat, xs.length = len ∧ (∀ x ∈ xs, x < B) ∧ Rd w (some x) (nums k xs) := by
  refine ⟨(zs.take len).map Int.toNat, by simp; omega, ?_, ?_⟩
  · intro y hy
    obtain ⟨n, hn, rfl⟩ := List.mem_map.1 hy
    have := hk n (hw n (List.mem_of_mem_take hn))
    omega
  · intro i v hv
    have hi : i < len := by
      have := (List.getElem?_eq_some_iff.1 hv).1
      simp [nums] at this; omega
    have hiz : i < zs.length := by omega
    have hs := addr_none (hc 0 (by omega))
    obtain ⟨b, off, sp⟩ := x
    simp at hs
    subst hs
    refine ⟨b, off, rfl, ?_⟩
    have e := hc i (by omega)
    rw [Addr.add_lit] at e
    rw [e]
    have hn := hk zs[i] (hw _ (List.getElem_mem hiz))
    simp [nums, hi, hiz] at hv
    rw [← hv]
    simp [hiz]
    omega

theorem wf_u32 (n : Int) (h : (Lit.int .u32 n).wf = true) : 0 ≤ n ∧ n < (4294967296 : Nat) := by
  have := bounds_u32 h
  omega
theorem wf_u64 (n : Int) (h : (Lit.int .u64 n).wf = true) : 0 ≤ n ∧ n < (18446744073709551616 : Nat) := by
  have := bounds_u64 h
  omega
theorem wf_u8 (n : Int) (h : (Lit.int .u8 n).wf = true) : 0 ≤ n ∧ n < (256 : Nat) := by
  have := bounds_u8 h
  omega

/-- A slice, as what it is made of. -/
structure Sl where
  a : Option Addr
  len : Nat
  cap : Nat
def Sl.v (s : Sl) : Value := .slice s.a s.len s.cap

/-- Behind al lie slices, each with its numbers. -/
def Rds (k : IntKind) (w : World) (al : Option Addr) (ps : List (Sl × List Nat)) : Prop :=
  Rd w al (ps.map fun p => p.1.v) ∧ ∀ p ∈ ps, p.2.length = p.1.len ∧ Rd w p.1.a (nums k p.2)

theorem Rds.mono {k : IntKind} {w w' : World} {al : Option Addr} {ps : List (Sl × List Nat)} (h : Rds k w al ps) (o : Old w w') : Rds k w' al ps :=
  ⟨h.1.mono o, fun p hp => ⟨(h.2 p hp).1, (h.2 p hp).2.mono o⟩⟩

theorem Rds.at {k : IntKind} {w : World} {al : Option Addr} {ps : List (Sl × List Nat)} (h : Rds k w al ps) {i : Nat} (hi : i < ps.length) :
    ∃ b off a len cap xs, al = some ⟨b, off, none⟩ ∧ Hid (ps[i]? = some (⟨a, len, cap⟩, xs)) ∧ w.cell? ⟨b, off + i, none⟩ = some (.slice a len cap) ∧ Hid (xs.length = len) ∧ Rd w a (nums k xs) := by
  obtain ⟨b, off, ha, hc⟩ := h.1 i (ps[i].1.v) (by simp [hi])
  have := h.2 ps[i] (List.getElem_mem hi)
  exact ⟨b, off, ps[i].1.a, ps[i].1.len, ps[i].1.cap, ps[i].2, ha, by show ps[i]? = some _; rw [List.getElem?_eq_getElem hi], hc, this.1, this.2⟩

/-- A literal's row. -/
theorem rd_new {w : World} {s : Nat} (hs : s = w.heap.size) {t : TypeId} {cs : Array Value} {vs : List Value} (h : cs.toList = vs) : Rd (w.alloc (.cells cs t)) (some ⟨s, 0, none⟩) vs := by
  subst hs
  subst h
  exact (Row.new w t cs.toList).rd
theorem rd_past {w : World} {a : Option Addr} {vs : List Value} (h : Rd w a vs) (o : Obj) : Rd (w.alloc o) a vs := h.mono (Old.of_alloc _ _)

/-- A new row of zeros. -/
theorem make_nums {P : Program} {t e : TypeId} {k : IntKind} {B : Nat} (ht : P.underlying t = some (.slice e)) (hi : (P.info? e).map (fun i => (i.zero, i.size, i.bytes)) = some (some (.int k 0), 1, B))
    (n : Nat) (hB : B * n ≤ 281474976710656) (hn : n ≤ 281474976710656) (w : World) :
    (Instr.makeSlice t (.int .i64 (n : Int)) (.int .i64 (n : Int))).run P w = .ok (.slice (some ⟨w.heap.size, 0, none⟩) n n) (w.alloc (.cells (nums k (List.replicate n 0)).toArray e)) := by
  obtain ⟨i0, h1, h2, h3, h4⟩ := info_parts hi
  have := run_make (P := P) w t e i0 (.int k 0) ht h1 h2 .i64 .i64 (n : Int) (n : Int) (by omega) (Int.le_refl _) (by
    rw [h4]
    have : ((B * n : Nat) : Int) ≤ 281474976710656 := by omega
    rwa [Int.natCast_mul] at this) (by omega)
  rw [this, h3]
  simp only [Int.toNat_natCast, Nat.mul_one]
  congr 3
  simp [madeCells, nums, Value.cells]
  apply Array.ext
  · simp
  · intro i h5 h6
    simp [Nat.mod_one]

/-- What copy lays into a row of the call's own, that is as long as what is copied. -/
theorem copy_nums {P : Program} {dT sT ty e : TypeId} (hu : P.underlying dT = some (.slice e)) (hs : (P.info? e).map (·.size) = some 1) {k : IntKind} (n : Nat) (xs : List Nat) (hx : xs.length = n) (a : Option Addr) (ca : Nat) (vs : List Value) (hv : vs.length = n)
    (w : World) (rd : Rd w a (nums k xs)) :
    (Builtin.copy_ #[dT, sT] ty #[.slice (some ⟨w.heap.size, 0, none⟩) n n, .slice a n ca]).run P (w.alloc (.cells vs.toArray e)) = .ok (goInt n) (w.alloc (.cells (nums k xs).toArray e)) := by
  by_cases h0 : n = 0
  · subst h0
    obtain rfl : vs = [] := List.eq_nil_of_length_eq_zero hv
    obtain rfl : xs = [] := List.eq_nil_of_length_eq_zero hx
    rw [run_copy_none _ dT sT ty e _ a 0 0 0 ca hu hs rfl]
    rfl
  · obtain ⟨b, off, z, rfl, _, _⟩ := rd.num (i := 0) (by omega)
    have hl : (nums k xs).length = n := by rw [nums_length, hx]
    have hrun := run_copy_row P (w.alloc (.cells vs.toArray e)) dT sT ty e w.heap.size 0 n n ⟨b, off, none⟩ n ca vs.toArray e (nums k xs) hu hs (Row.new w e vs) (by rw [hl]; simp)
      (fun j v hj => by
        obtain ⟨b', off', ha, hc⟩ := (rd.mono (Old.of_alloc w (.cells vs.toArray e))) j v hj
        obtain ⟨rfl, rfl⟩ : b = b' ∧ off = off' := by simpa using ha
        rw [Addr.add_lit]; exact hc) (by simp [hl, hv]) (nums_oneCell k xs)
    rw [hrun, hl]
    congr 1
    rw [show (List.take 0 vs.toArray.toList ++ nums k xs ++ List.drop (0 + n) vs.toArray.toList) = nums k xs by simp [← hv]]
    unfold World.setRow World.alloc
    congr 1
    apply Array.ext
    · simp
    · intro i h1 h2
      simp only [Array.getElem_modify, Array.getElem_push]
      split
      · rename_i hi
        subst hi
        simp
      · rename_i hi
        simp at h1 h2
        have : i < w.heap.size := by omega
        simp [this]
end Go.Proofs.Ytnmigdcedcmbkaa
