/-
  offertoryref06.Cut, offertoryref06.Glue: the document's numbers of a seed, and the seed again.
-/
import Derived.Test.YtienijnggccnfaaProg
import Derived.Test.YtienijnggccnfaaLimb
import Derived.Test.YtienijnggccnfaaWhole
namespace Go.Proofs.Ytienijnggccnfaa
open Go.RowKit Limb
set_option linter.unusedVariables false

theorem info5 {k : IntKind} {xs : List Nat} (h : xs.length = 5) : (Try.prog.info? 24).map (·.size) = some (nums k xs).length := by rw [nums_length, h]; kernel_rfl
theorem info32 {k : IntKind} {xs : List Nat} (h : xs.length = 32) : (Try.prog.info? 22).map (·.size) = some (nums k xs).length := by rw [nums_length, h]; kernel_rfl

def z5 : List Nat := [0, 0, 0, 0, 0]
theorem size_allocL (w : World) (o : Obj) : (w.alloc o).heap.size = w.heap.size + 1 := by
  show (w.heap.push _).size = _
  simp
/-- Three blocks: the seed, and twice five numbers. -/
structure RC (w : World) (s : List Nat) (l m : List Nat) (wr : World) : Prop where
  a : Row wr w.heap.size 22 (nums .u8 s)
  b : Row wr (w.heap.size + 1) 24 (nums .u64 l)
  c : Row wr (w.heap.size + 2) 24 (nums .u64 m)
  old : Old w wr
theorem RC.start (w : World) (s : List Nat) : RC w s z5 z5 (((w.alloc (.cells (nums .u8 s).toArray 22)).alloc (.cells (nums .u64 z5).toArray 24)).alloc (.cells (nums .u64 z5).toArray 24)) := by
  have B := Row.new (w.alloc (.cells (nums .u8 s).toArray 22)) 24 (nums .u64 z5)
  have C := Row.new ((w.alloc (.cells (nums .u8 s).toArray 22)).alloc (.cells (nums .u64 z5).toArray 24)) 24 (nums .u64 z5)
  rw [size_allocL] at B C
  rw [size_allocL] at C
  exact ⟨((Row.new _ _ _).mono (Old.of_alloc _ _)).mono (Old.of_alloc _ _), B.mono (Old.of_alloc _ _), C, ((Old.of_alloc _ _).alloc _).alloc _⟩
theorem RC.put {w : World} {s l m : List Nat} {wr : World} (h : RC w s l m wr) (m' : List Nat) {w' : World} (hw : w' = wr.setRow (w.heap.size + 2) (nums .u64 m').toArray) : RC w s l m' w' := by
  subst hw
  exact ⟨h.a.grown (grown_setRow _ _ _) (by omega), h.b.grown (grown_setRow _ _ _) (by omega), h.c.whole _, h.old.grown (grown_setRow _ _ _) (by omega)⟩
theorem RC.set {w : World} {s l m : List Nat} {wr : World} (h : RC w s l m wr) (i z : Nat) : RC w s l (m.set i z) (wr.setCell ⟨w.heap.size + 2, i, none⟩ (.int .u64 (z : Int))) :=
  ⟨h.a.grown (grown_set _ _ _ _) (by omega), h.b.grown (grown_set _ _ _ _) (by omega), by rw [← nums_set]; exact h.c.set _ _, h.old.grown (grown_set _ _ _ _) (by omega)⟩
theorem RC.drewN {w : World} {s l m : List Nat} {wr : World} (h : RC w s l m wr) (n : Nat) : RC w s l m (wr.drewN n) := ⟨h.a.drewN n, h.b.drewN n, h.c.drewN n, h.old.drewN n⟩

theorem tdiv7 (k : Nat) : Int.tdiv (k : Int) 7 = ((k / 7 : Nat) : Int) := by
  rw [Int.tdiv_eq_ediv_of_nonneg (by omega)]; omega

set_option maxHeartbeats 2000000 in
theorem refCut_any (s : List Nat) (hl : s.length = 32) (hb : ∀ x ∈ s, x < 256) (w : World) :
    Calls Try.prog 9 #[.agg (nums .u8 s).toArray] w fun e w' => e = .returned (.agg (nums .u64 (cutL s)).toArray) ∧ Old w w' := by
  have HL := hide hl
  have HB := hide hb
  have K0 := hide (RC.start w s)
  have I5 : Hid (∀ xs : List Nat, xs.length = 5 → (Try.prog.info? 24).map (·.size) = some (nums .u64 xs).length) := fun xs h => info5 h
  clear hl hb
  go_enter Try.func9, Try.ntmps9
  go_wp2_with (first
    | (refine wp_store_whole rfl 24 _ _ rfl (w.heap.size + 2) rfl (nums .u64 z5) rfl K0.out.c (I5.out z5 rfl) rfl (nums_oneCell _ _) ?_; rintro w1 h1
       have R1 := K0.out.put z5 h1
       clear h1 K0))
  go_loopw [4] (fun vi wr => ∃ k : Nat, k ≤ 32 ∧ vi = .int .i64 ((k : Int) - 1) ∧ Hid (RC w s z5 (cutFrom s k) wr)) (fun vi _ => (intOf vi + 1).toNat)
  case atStart => exact ⟨32, by omega, rfl, by rw [cutFrom_end HL.out]; exact R1⟩
  case round =>
    clear R1
    obtain ⟨k, hk, rfl, R⟩ := hrel
    match k, hk with
    | 0, _ =>
      have g1 : decide ((0 : Int) ≤ ((0 : Nat) : Int) - 1) = false := by simp
      have R2 := R.out
      rw [cutFrom_zero] at R2
      go_wp2_with (first
        | refine wp_load_whole rfl 24 _ rfl (w.heap.size + 2) rfl R2.c Try.underlying24 rfl (I5.out _ (cutL_length s)) ?_
        | (refine wp_store_whole rfl 24 _ _ rfl (w.heap.size + 1) rfl (nums .u64 (cutL s)) rfl R2.b (I5.out _ (cutL_length s)) (by rw [nums_length, nums_length, cutL_length]; rfl) (nums_oneCell _ _) ?_; rintro w9 h9))
      have K9 : Row w9 (w.heap.size + 1) 24 (nums .u64 (cutL s)) := by rw [h9]; exact R2.b.whole _
      have O9 : Old w w9 := by rw [h9]; exact R2.old.grown (grown_setRow _ _ _) (by omega)
      exact bodyPost_ret (v := .agg (nums .u64 (cutL s)).toArray) (results_whole rfl rfl K9 Try.underlying24 rfl (I5.out _ (cutL_length s))) rfl ⟨rfl, O9⟩
    | k + 1, hk =>
      obtain ⟨b, Hb, cb⟩ := R.out.a.num (i := k) (by rw [HL.out]; omega)
      have lb := HB.out b (List.mem_of_getElem? Hb.out)
      have hq : k / 7 < 5 := by omega
      obtain ⟨y, Hy, cy⟩ := R.out.c.num (i := k / 7) (by rw [cutFrom_length]; exact hq)
      have ly := cutFrom_lt HB.out (k + 1) y (List.mem_of_getElem? Hy.out)
      have fy := R.out.c.free (k / 7)
      have ST := hide (cutFrom_step Hb.out (by omega) Hy.out)
      have e1 : (((k + 1 : Nat) : Int) - 1) = (k : Int) := by omega
      have k0 : (0 : Int) ≤ k := by omega
      have k1 : (k : Int) < 32 := by omega
      have e7 := tdiv7 k
      have q0 : (0 : Int) ≤ ((k / 7 : Nat) : Int) := by omega
      have q1 : ((k / 7 : Nat) : Int) < 5 := by omega
      rw [e1]
      go_wp2_with fail
      go_region
      go_wp2
      go_roundw
      case rel =>
        refine ⟨k, by omega, by go_num, ?_⟩
        show RC _ _ _ _ _
        rw [← ST.out]
        exact (R.out.set (k / 7) (y * 256 + b)).drewN 1
      case measure => simp [intOf]

/-- Two results: the first in a cell. -/
theorem results_whole2 {P : Program} {fn : Func} {p q : Tmp} {ty : TypeId} (h : fn.results = #[.cell p ty, .tmp q]) {tmps : Array Value} {w : World} {g : Nat} {t : TypeId} {vs : List Value} {d : TypeDesc} {v : Value}
    (hp : tmps.getD p undef = .pointer (some ⟨g, 0, none⟩)) (hq : tmps.getD q undef = v) (R : Row w g t vs)
    (hu : P.underlying ty = some d) (hd : (match d with | .struct _ | .array _ _ => true | _ => false) = true) (hi : (P.info? ty).map (·.size) = some vs.length) :
    (results fn tmps).run P w = .ok (.tuple #[.agg vs.toArray, v]) w := by
  have hp' : tmps[p]?.getD undef = .pointer (some ⟨g, 0, none⟩) := by simpa using hp
  have hq' : tmps[q]?.getD undef = v := by simpa using hq
  simp [results, h, hp', hq', asAddr, run_loadVar_row w g t ty vs.toArray (0, 0) d R hu hd (by simpa using hi)]

/-- What is left of the numbers behind i bytes; the bytes so far. -/
def glueRest (l : List Nat) (i : Nat) : List Nat := (List.range 5).map fun j => l.getD j 0 / 256 ^ min (i - 7 * j) 7
def gluePart (l : List Nat) (i : Nat) : List Nat := (List.range 32).map fun m => if m < i then byteN (l.getD (m / 7) 0) (m % 7) else 0
theorem glueRest_length (l : List Nat) (i : Nat) : (glueRest l i).length = 5 := by simp [glueRest]
theorem gluePart_length (l : List Nat) (i : Nat) : (gluePart l i).length = 32 := by simp [gluePart]
theorem glueRest_get (l : List Nat) (i : Nat) {j : Nat} (hj : j < 5) : (glueRest l i)[j]? = some (l.getD j 0 / 256 ^ min (i - 7 * j) 7) := by simp [glueRest, hj]
theorem gluePart_get (l : List Nat) (i : Nat) {m : Nat} (hm : m < 32) : (gluePart l i)[m]? = some (if m < i then byteN (l.getD (m / 7) 0) (m % 7) else 0) := by simp [gluePart, hm]
theorem gluePart_zero (l : List Nat) : gluePart l 0 = List.replicate 32 0 := by
  unfold gluePart
  simp only [Nat.not_lt_zero, if_false]
  rfl
theorem gluePart_all (l : List Nat) : gluePart l 32 = glueL l := by
  unfold gluePart glueL
  apply List.map_congr_left
  intro m hm
  rw [if_pos (List.mem_range.1 hm)]
theorem glueRest_zero {l : List Nat} (hl : l.length = 5) : glueRest l 0 = l := by
  apply List.ext_getElem?
  intro j
  by_cases hj : j < 5
  · rw [glueRest_get l 0 hj, List.getD_eq_getElem?_getD, List.getElem?_eq_getElem (by omega)]
    simp
  · rw [List.getElem?_eq_none (by rw [glueRest_length]; omega), List.getElem?_eq_none (by omega)]
theorem gluePart_step (l : List Nat) {i y : Nat} (hi : i < 32) (hy : (glueRest l i)[i / 7]? = some y) : (gluePart l i).set i (y % 256) = gluePart l (i + 1) := by
  rw [glueRest_get l i (by omega)] at hy
  have hy' := Option.some.inj hy
  apply List.ext_getElem?
  intro m
  rw [List.getElem?_set, gluePart_length]
  by_cases hm : m < 32
  · rw [gluePart_get l (i + 1) hm]
    by_cases e : i = m
    · rw [if_pos e, if_pos hi]
      subst e
      rw [if_pos (by omega), ← hy', show min (i - 7 * (i / 7)) 7 = i % 7 by omega]
      rfl
    · rw [if_neg e, gluePart_get l i hm]
      by_cases h1 : m < i
      · rw [if_pos h1, if_pos (by omega)]
      · rw [if_neg h1, if_neg (by omega)]
  · rw [List.getElem?_eq_none (by rw [gluePart_length]; omega), List.getElem?_eq_none (by rw [gluePart_length]; omega), if_neg (by omega)]
theorem glueRest_step (l : List Nat) {i y : Nat} (hi : i < 32) (hy : (glueRest l i)[i / 7]? = some y) : (glueRest l i).set (i / 7) (y / 256) = glueRest l (i + 1) := by
  rw [glueRest_get l i (by omega)] at hy
  have hy' := Option.some.inj hy
  apply List.ext_getElem?
  intro j
  rw [List.getElem?_set, glueRest_length]
  by_cases hj : j < 5
  · rw [glueRest_get l (i + 1) hj]
    by_cases e : i / 7 = j
    · rw [if_pos e, if_pos (by omega)]
      subst e
      rw [← hy', Nat.div_div_eq_div_mul, ← Nat.pow_succ, show min (i + 1 - 7 * (i / 7)) 7 = min (i - 7 * (i / 7)) 7 + 1 by omega]
    · rw [if_neg e, glueRest_get l i hj]
      rw [show min (i + 1 - 7 * j) 7 = min (i - 7 * j) 7 by omega]
  · rw [List.getElem?_eq_none (by rw [glueRest_length]; omega), List.getElem?_eq_none (by rw [glueRest_length]; omega), if_neg (by omega)]
/-- Is nothing left of the first i? -/
def okUp (l : List Nat) (i : Nat) : Bool := (List.range i).all fun j => (glueRest l 32).getD j 0 == 0
theorem okUp_step (l : List Nat) {i y : Nat} (hy : (glueRest l 32)[i]? = some y) : okUp l (i + 1) = (okUp l i && (y == 0)) := by
  unfold okUp
  rw [List.range_succ, List.all_append]
  simp only [List.all_cons, List.all_nil, Bool.and_true]
  rw [List.getD_eq_getElem?_getD (i := i), hy]
  rfl
theorem okUp_all (l : List Nat) : okUp l 5 = glueOk l := by
  rw [Bool.eq_iff_iff, glueOk_iff]
  unfold okUp
  simp only [List.all_eq_true, List.mem_range, beq_iff_eq]
  have key : ∀ j, j < 5 → ((glueRest l 32).getD j 0 = 0 ↔ l.getD j 0 < top j) := by
    intro j hj
    rw [List.getD_eq_getElem?_getD (l := glueRest l 32), glueRest_get l 32 hj, Option.getD_some]
    unfold top
    split
    · rw [show min (32 - 7 * j) 7 = 7 by omega]
      omega
    · rw [show min (32 - 7 * j) 7 = 4 by omega]
      omega
  constructor
  · intro h j hj; exact (key j hj).1 (h j hj)
  · intro h j hj; exact (key j hj).2 (h j hj)

/-- Three blocks: five numbers, and twice a seed. -/
structure RG (w : World) (l : List Nat) (s t : List Nat) (wr : World) : Prop where
  a : Row wr w.heap.size 24 (nums .u64 l)
  b : Row wr (w.heap.size + 1) 22 (nums .u8 s)
  c : Row wr (w.heap.size + 2) 22 (nums .u8 t)
  old : Old w wr
def z32 : List Nat := List.replicate 32 0
theorem RG.start (w : World) (l : List Nat) : RG w l z32 z32 (((w.alloc (.cells (nums .u64 l).toArray 24)).alloc (.cells (nums .u8 z32).toArray 22)).alloc (.cells (nums .u8 z32).toArray 22)) := by
  have B := Row.new (w.alloc (.cells (nums .u64 l).toArray 24)) 22 (nums .u8 z32)
  have C := Row.new ((w.alloc (.cells (nums .u64 l).toArray 24)).alloc (.cells (nums .u8 z32).toArray 22)) 22 (nums .u8 z32)
  rw [size_allocL] at B C
  rw [size_allocL] at C
  exact ⟨((Row.new _ _ _).mono (Old.of_alloc _ _)).mono (Old.of_alloc _ _), B.mono (Old.of_alloc _ _), C, ((Old.of_alloc _ _).alloc _).alloc _⟩
theorem RG.put {w : World} {l s t : List Nat} {wr : World} (h : RG w l s t wr) (t' : List Nat) {w' : World} (hw : w' = wr.setRow (w.heap.size + 2) (nums .u8 t').toArray) : RG w l s t' w' := by
  subst hw
  exact ⟨h.a.grown (grown_setRow _ _ _) (by omega), h.b.grown (grown_setRow _ _ _) (by omega), h.c.whole _, h.old.grown (grown_setRow _ _ _) (by omega)⟩
theorem RG.set {w : World} {l s t : List Nat} {wr : World} (h : RG w l s t wr) (i z : Nat) : RG w l s (t.set i z) (wr.setCell ⟨w.heap.size + 2, i, none⟩ (.int .u8 (z : Int))) :=
  ⟨h.a.grown (grown_set _ _ _ _) (by omega), h.b.grown (grown_set _ _ _ _) (by omega), by rw [← nums_set]; exact h.c.set _ _, h.old.grown (grown_set _ _ _ _) (by omega)⟩
theorem RG.setl {w : World} {l s t : List Nat} {wr : World} (h : RG w l s t wr) (i z : Nat) : RG w (l.set i z) s t (wr.setCell ⟨w.heap.size, i, none⟩ (.int .u64 (z : Int))) :=
  ⟨by rw [← nums_set]; exact h.a.set _ _, h.b.grown (grown_set _ _ _ _) (by omega), h.c.grown (grown_set _ _ _ _) (by omega), h.old.grown (grown_set _ _ _ _) (by omega)⟩
theorem RG.end_ {w : World} {l s t : List Nat} {wr : World} (h : RG w l s t wr) (s' : List Nat) {w' : World} (hw : w' = wr.setRow (w.heap.size + 1) (nums .u8 s').toArray) : Row w' (w.heap.size + 1) 22 (nums .u8 s') ∧ Old w w' := by
  subst hw
  exact ⟨h.b.whole _, h.old.grown (grown_setRow _ _ _) (by omega)⟩

theorem mod256 (y : Nat) : Int.tmod (y : Int) 256 = ((y % 256 : Nat) : Int) := by
  rw [Int.tmod_eq_emod_of_nonneg (by omega)]; omega
theorem tdiv256 (y : Nat) : Int.tdiv (y : Int) 256 = ((y / 256 : Nat) : Int) := by
  rw [Int.tdiv_eq_ediv_of_nonneg (by omega)]; omega

set_option maxHeartbeats 4000000 in
theorem refGlue_any (l : List Nat) (hl : l.length = 5) (hb : ∀ x ∈ l, x < 18446744073709551616) (w : World) :
    Calls Try.prog 11 #[.agg (nums .u64 l).toArray] w fun e w' => e = .returned (.tuple #[.agg (nums .u8 (glueS l)).toArray, .bool (glueOk l)]) ∧ Old w w' := by
  have HL := hide hl
  have HB := hide hb
  have K0 := hide (RG.start w l)
  have I32 : Hid (∀ xs : List Nat, xs.length = 32 → (Try.prog.info? 22).map (·.size) = some (nums .u8 xs).length) := fun xs h => info32 h
  have LR : Hid (∀ i, ∀ y ∈ glueRest l i, y < 18446744073709551616) := by
    intro i y hy
    obtain ⟨j, _, rfl⟩ := List.mem_map.1 hy
    refine Nat.lt_of_le_of_lt (Nat.div_le_self _ _) ?_
    rw [List.getD_eq_getElem?_getD]
    cases h : l[j]? with
    | none => simp
    | some v => exact hb v (List.mem_of_getElem? h)
  clear hl hb
  go_enter Try.func11, Try.ntmps11
  go_wp2_with (first
    | (refine wp_store_whole rfl 22 _ _ rfl (w.heap.size + 2) rfl (nums .u8 z32) rfl K0.out.c (I32.out z32 rfl) rfl (nums_oneCell _ _) ?_; rintro w1 h1
       have R1 := K0.out.put z32 h1
       clear h1 K0))
  go_loopw [5] (fun vi wr => ∃ k : Nat, k ≤ 32 ∧ vi = .int .i64 (k : Nat) ∧ Hid (RG w (glueRest l k) z32 (gluePart l k) wr)) (fun vi _ => (32 - intOf vi).toNat)
  case atStart => exact ⟨0, by omega, rfl, by show RG _ _ _ _ _; rw [glueRest_zero HL.out, gluePart_zero]; exact R1⟩
  case round =>
    clear R1
    obtain ⟨k, hk, rfl, R⟩ := hrel
    by_cases hk32 : k = 32
    · subst hk32
      rw [show ((32 : Nat) : Int) = 32 from rfl]
      have R2 := hide R.out
      rw [gluePart_all] at R2
      clear R
      go_wp2_with fail
      go_loopw [6, 7] (fun vo vi wr' => ∃ i : Nat, i ≤ 5 ∧ vi = .int .i64 (i : Nat) ∧ vo = .bool (okUp l i) ∧ wr' = wr) (fun _ vi _ => (5 - intOf vi).toNat)
      case atStart => exact ⟨0, by omega, rfl, rfl, rfl⟩
      case round =>
        obtain ⟨i, hi, rfl, rfl, rfl⟩ := hrel
        by_cases hi5 : i = 5
        · subst hi5
          rw [show ((5 : Nat) : Int) = 5 from rfl, okUp_all]
          by_cases hok : glueOk l = true
          · rw [hok]
            have HS : Hid (glueS l = glueL l) := by show _ = _; unfold glueS; rw [if_pos hok]
            go_wp2_with (first
              | refine wp_load_whole rfl 22 _ rfl (w.heap.size + 2) rfl R2.out.c Try.underlying22 rfl (I32.out _ (glueL_length l)) ?_
              | (refine wp_store_whole rfl 22 _ _ rfl (w.heap.size + 1) rfl (nums .u8 (glueL l)) rfl R2.out.b (I32.out _ (glueL_length l)) (by rw [nums_length, nums_length, glueL_length]; rfl) (nums_oneCell _ _) ?_; rintro w9 h9
                 have E9 := R2.out.end_ _ h9
                 clear h9))
            rw [HS.out]
            exact bodyPost_ret (v := .tuple #[.agg (nums .u8 (glueL l)).toArray, .bool true]) (results_whole2 rfl rfl rfl E9.1 Try.underlying22 rfl (I32.out _ (glueL_length l))) rfl ⟨by rw [hok], E9.2⟩
          · have hok' : glueOk l = false := by simpa using hok
            rw [hok']
            have HS : Hid (glueS l = z32) := by show _ = _; unfold glueS; rw [if_neg hok]; rfl
            go_wp2_with (first
              | (refine wp_store_whole rfl 22 _ _ rfl (w.heap.size + 1) rfl (nums .u8 z32) rfl R2.out.b (I32.out _ rfl) rfl (nums_oneCell _ _) ?_; rintro w9 h9
                 have E9 := R2.out.end_ _ h9
                 clear h9))
            rw [HS.out]
            exact bodyPost_ret (v := .tuple #[.agg (nums .u8 z32).toArray, .bool false]) (results_whole2 rfl rfl rfl E9.1 Try.underlying22 rfl (I32.out _ rfl)) rfl ⟨by rw [hok'], E9.2⟩
        · have hil : i < 5 := by omega
          have i0 : (0 : Int) ≤ i := by omega
          have i1 : (i : Int) < 5 := by omega
          have d0 : decide ((i : Int) < 5) = true := decide_eq_true i1
          obtain ⟨y, Hy, cy⟩ := R2.out.a.num (i := i) (by rw [glueRest_length]; exact hil)
          have ST := hide (okUp_step l Hy.out)
          by_cases ho : okUp l i = true
          · rw [ho] at ST ⊢
            have EQ : Hid ((((y : Nat) : Int) == 0) = (y == 0)) := by
              show _ = _
              rw [Bool.eq_iff_iff, beq_iff_eq, beq_iff_eq]; omega
            go_wp2
            go_roundw
            case rel => exact ⟨i + 1, by omega, by go_num, by rw [ST.out, ← EQ.out]; rfl, trivial⟩
            case measure => simp [intOf]; omega
          · have ho' : okUp l i = false := by simpa using ho
            rw [ho'] at ST ⊢
            go_wp2
            go_roundw
            case rel => exact ⟨i + 1, by omega, by go_num, by rw [ST.out]; rfl, trivial⟩
            case measure => simp [intOf]; omega
    · have hkl : k < 32 := by omega
      have hq : k / 7 < 5 := by omega
      obtain ⟨y, Hy, cy⟩ := R.out.a.num (i := k / 7) (by rw [glueRest_length]; exact hq)
      have ly := LR.out k y (List.mem_of_getElem? Hy.out)
      have fy := R.out.a.free (k / 7)
      obtain ⟨x, Hx, cx⟩ := R.out.c.num (i := k) (by rw [gluePart_length]; exact hkl)
      have fx := R.out.c.free k
      have k0 : (0 : Int) ≤ k := by omega
      have k1 : (k : Int) < 32 := by omega
      have d0 : decide ((k : Int) < 32) = true := decide_eq_true k1
      have e7 := tdiv7 k
      have q0 : (0 : Int) ≤ ((k / 7 : Nat) : Int) := by omega
      have q1 : ((k / 7 : Nat) : Int) < 5 := by omega
      have R3 := hide ((R.out.set k (y % 256)).setl (k / 7) (y / 256))
      rw [gluePart_step l hkl Hy.out, glueRest_step l hkl Hy.out] at R3
      go_wp2
      go_roundw
      case rel =>
        exact ⟨k + 1, by omega, by go_num, R3⟩
      case measure => simp [intOf]; omega
end Go.Proofs.Ytienijnggccnfaa
