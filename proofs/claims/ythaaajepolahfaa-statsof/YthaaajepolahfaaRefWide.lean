/-
  The document's numbers of 128 bits (offertoryref09): Of, Wide, Add, Neg.
-/
import Derived.Test.YthaaajepolahfaaProg
import Derived.Test.YthaaajepolahfaaWideN
import Derived.Test.YthaaajepolahfaaWhole
namespace Go.Proofs.Ythaaajepolahfaa
open Go.RowKit Wd
set_option linter.unusedVariables false

/-- A number of 128 bits. -/
def wv (x : Nat) : Value := .agg #[.int .u64 (hi x : Nat), .int .u64 (lo x : Nat)]
/-- Its digits. -/
def bv (x : Nat) : Value := .agg (nums .u32 (bigL x)).toArray
theorem info8 {xs : List Nat} (h : xs.length = 8) : (Try.prog.info? 45).map (·.size) = some (nums .u32 xs).length := by rw [nums_length, h]; kernel_rfl
theorem infoW {u v : Value} : (Try.prog.info? 27).map (·.size) = some [u, v].length := by kernel_rfl
theorem size_allocW (w : World) (o : Obj) : (w.alloc o).heap.size = w.heap.size + 1 := by
  show (w.heap.push o).size = _
  simp

/-- Three blocks: two numbers as digits, and one more. -/
structure R3 (w : World) (a b c : List Nat) (wr : World) : Prop where
  a : Row wr w.heap.size 45 (nums .u32 a)
  b : Row wr (w.heap.size + 1) 45 (nums .u32 b)
  c : Row wr (w.heap.size + 2) 45 (nums .u32 c)
  old : Old w wr
def z8 : List Nat := [0, 0, 0, 0, 0, 0, 0, 0]
theorem R3.start (w : World) (a b : List Nat) : R3 w a b z8 (((w.alloc (.cells (nums .u32 a).toArray 45)).alloc (.cells (nums .u32 b).toArray 45)).alloc (.cells (nums .u32 z8).toArray 45)) := by
  have B := Row.new (w.alloc (.cells (nums .u32 a).toArray 45)) 45 (nums .u32 b)
  have C := Row.new ((w.alloc (.cells (nums .u32 a).toArray 45)).alloc (.cells (nums .u32 b).toArray 45)) 45 (nums .u32 z8)
  rw [size_allocW] at B C
  rw [size_allocW] at C
  exact ⟨((Row.new _ _ _).mono (Old.of_alloc _ _)).mono (Old.of_alloc _ _), B.mono (Old.of_alloc _ _), C, ((Old.of_alloc _ _).alloc _).alloc _⟩
theorem R3.set {w : World} {a b c : List Nat} {wr : World} (h : R3 w a b c wr) (i z : Nat) : R3 w (a.set i z) b c (wr.setCell ⟨w.heap.size, i, none⟩ (.int .u32 (z : Int))) :=
  ⟨by rw [← nums_set]; exact h.a.set _ _, h.b.grown (grown_set _ _ _ _) (by omega), h.c.grown (grown_set _ _ _ _) (by omega), h.old.grown (grown_set _ _ _ _) (by omega)⟩
theorem R3.drewN {w : World} {a b c : List Nat} {wr : World} (h : R3 w a b c wr) (n : Nat) : R3 w a b c (wr.drewN n) := ⟨h.a.drewN n, h.b.drewN n, h.c.drewN n, h.old.drewN n⟩
theorem R3.end_ {w : World} {a b c : List Nat} {wr : World} (h : R3 w a b c wr) (c' : List Nat) {w' : World} (hw : w' = wr.setRow (w.heap.size + 2) (nums .u32 c').toArray) : Row w' (w.heap.size + 2) 45 (nums .u32 c') ∧ Old w w' := by
  subst hw
  exact ⟨h.c.whole _, h.old.grown (grown_setRow _ _ _) (by omega)⟩

set_option maxHeartbeats 2000000 in
theorem refAdd9_any (x y : Nat) (w : World) :
    Calls Try.prog 31 #[bv x, bv y] w fun e w' => e = .returned (bv (x + y)) ∧ Old w w' := by
  have K0 := hide (R3.start w (bigL x) (bigL y))
  unfold bv
  go_enter Try.func31, Try.ntmps31
  go_wp2_with fail
  go_loopw [5, 6] (fun vc vi wr => ∃ i : Nat, i ≤ 8 ∧ vi = .int .i64 (i : Nat) ∧ vc = .int .u32 (car x y i : Nat) ∧ Hid (R3 w (addSt x y i) (bigL y) z8 wr)) (fun _ vi _ => (8 - intOf vi).toNat)
  case atStart => exact ⟨0, by omega, rfl, by rw [car_zero]; rfl, by show R3 _ _ _ _ _; rw [addSt_zero]; exact K0.out⟩
  case round =>
    clear K0
    obtain ⟨i, hi, rfl, rfl, R⟩ := hrel
    by_cases hi8 : i = 8
    · subst hi8
      rw [show ((8 : Nat) : Int) = 8 from rfl]
      have R2 := hide R.out
      rw [addSt_all] at R2
      clear R
      go_wp2_with (first
        | refine wp_load_whole rfl 45 _ rfl w.heap.size rfl R2.out.a Try.underlying45 rfl (info8 (bigL_length _)) ?_
        | (refine wp_store_whole rfl 45 _ _ rfl (w.heap.size + 2) rfl (nums .u32 (bigL (x + y))) rfl R2.out.c (info8 (bigL_length _)) (by rw [nums_length, nums_length, bigL_length]; rfl) (nums_oneCell _ _) ?_; rintro w9 h9
           have E9 := R2.out.end_ _ h9
           clear h9))
      exact bodyPost_ret (v := .agg (nums .u32 (bigL (x + y))).toArray) (results_whole rfl rfl E9.1 Try.underlying45 rfl (info8 (bigL_length _))) rfl ⟨rfl, E9.2⟩
    · have hil : i < 8 := by omega
      have i0 : (0 : Int) ≤ i := by omega
      have i1 : (i : Int) < 8 := by omega
      have d0 : decide ((i : Int) < 8) = true := decide_eq_true i1
      have c1 := R.out.a.cell (i := i) (by unfold nums; rw [List.getElem?_map, addSt_get x y hil]; rfl)
      have c2 := R.out.b.cell (i := i) (by unfold nums; rw [List.getElem?_map, bigL_get y hil]; rfl)
      have f1 := R.out.a.free i
      have l1 := digit_lt x i
      have l2 := digit_lt y i
      have l3 := car_le x y i
      have S1 := hide (car_step x y i)
      have S2 := hide (car_digit x y i)
      have S3 := hide (addSt_step x y hil)
      revert c1 c2 l1 l2 l3 S1 S2
      generalize digit x i = p
      generalize digit y i = q
      generalize car x y i = c
      intro c1 c2 l1 l2 l3 S1 S2
      go_wp2_with fail
      go_region
      go_wp2
      go_roundw
      case rel =>
        refine ⟨i + 1, by omega, by go_num, by rw [← S1.out]; rfl, ?_⟩
        show R3 _ _ _ _ _
        rw [← S3.out, ← S2.out]
        exact (R.out.set i ((p + q + c) % 65536)).drewN 1
      case measure => simp [intOf]; omega

/-- Two blocks of digits. -/
structure R2 (w : World) (a b : List Nat) (wr : World) : Prop where
  a : Row wr w.heap.size 45 (nums .u32 a)
  b : Row wr (w.heap.size + 1) 45 (nums .u32 b)
  old : Old w wr
theorem R2.start (w : World) (a : List Nat) : R2 w a z8 ((w.alloc (.cells (nums .u32 a).toArray 45)).alloc (.cells (nums .u32 z8).toArray 45)) := by
  have B := Row.new (w.alloc (.cells (nums .u32 a).toArray 45)) 45 (nums .u32 z8)
  rw [size_allocW] at B
  exact ⟨(Row.new _ _ _).mono (Old.of_alloc _ _), B, (Old.of_alloc _ _).alloc _⟩
theorem R2.set {w : World} {a b : List Nat} {wr : World} (h : R2 w a b wr) (i z : Nat) : R2 w (a.set i z) b (wr.setCell ⟨w.heap.size, i, none⟩ (.int .u32 (z : Int))) :=
  ⟨by rw [← nums_set]; exact h.a.set _ _, h.b.grown (grown_set _ _ _ _) (by omega), h.old.grown (grown_set _ _ _ _) (by omega)⟩
theorem R2.mono {w : World} {a b : List Nat} {wr w' : World} (h : R2 w a b wr) (o : Old wr w') : R2 w a b w' := ⟨h.a.mono o, h.b.mono o, h.old.trans o⟩
theorem R2.end_ {w : World} {a b : List Nat} {wr : World} (h : R2 w a b wr) (c' : List Nat) {w' : World} (hw : w' = wr.setRow (w.heap.size + 1) (nums .u32 c').toArray) : Row w' (w.heap.size + 1) 45 (nums .u32 c') ∧ Old w w' := by
  subst hw
  exact ⟨h.b.whole _, h.old.grown (grown_setRow _ _ _) (by omega)⟩

theorem big_one : bigL 1 = [1, 0, 0, 0, 0, 0, 0, 0] := by decide
set_option maxHeartbeats 2000000 in
theorem refNeg9_any (x : Nat) (hx : x ≤ M) (w : World) :
    Calls Try.prog 44 #[bv x] w fun e w' => e = .returned (bv (M - x)) ∧ Old w w' := by
  have K0 := hide (R2.start w (bigL x))
  have T1 : Hid (bigL (turn x + 1) = bigL (M - x)) := turn_one x hx
  have C1 : Hid (∀ w, Calls Try.prog 31 #[.agg (nums .u32 (bigL (turn x))).toArray, .agg #[.int .u32 1, .int .u32 0, .int .u32 0, .int .u32 0, .int .u32 0, .int .u32 0, .int .u32 0, .int .u32 0]] w fun e w' => e = .returned (.agg (nums .u32 (bigL (turn x + 1))).toArray) ∧ Old w w') := fun w => by
    have := refAdd9_any (turn x) 1 w
    unfold bv at this
    rw [big_one] at this
    exact this
  unfold bv
  go_enter Try.func44, Try.ntmps44
  go_wp2_with fail
  go_loopw [3] (fun vi wr => ∃ i : Nat, i ≤ 8 ∧ vi = .int .i64 (i : Nat) ∧ Hid (R2 w (turnSt x i) z8 wr)) (fun vi _ => (8 - intOf vi).toNat)
  case atStart => exact ⟨0, by omega, rfl, by show R2 _ _ _ _; rw [turnSt_zero]; exact K0.out⟩
  case round =>
    clear K0
    obtain ⟨i, hi, rfl, R⟩ := hrel
    by_cases hi8 : i = 8
    · subst hi8
      rw [show ((8 : Nat) : Int) = 8 from rfl]
      have RT := hide R.out
      rw [turnSt_all] at RT
      clear R
      go_wp2_with (refine wp_load_whole rfl 45 _ rfl w.heap.size rfl RT.out.a Try.underlying45 rfl (info8 (bigL_length _)) ?_)
      refine (C1.out _).mono ?_
      rintro e w1 ⟨rfl, o1⟩
      have R1 := hide (RT.out.mono o1)
      rw [T1.out]
      clear RT o1
      go_wp2_with (first
        | (refine wp_store_whole rfl 45 _ _ rfl (w.heap.size + 1) rfl (nums .u32 (bigL (M - x))) rfl R1.out.b (info8 (bigL_length _)) (by rw [nums_length, nums_length, bigL_length]; rfl) (nums_oneCell _ _) ?_; rintro w9 h9
           have E9 := R1.out.end_ _ h9
           clear h9))
      exact bodyPost_ret (v := .agg (nums .u32 (bigL (M - x))).toArray) (results_whole rfl rfl E9.1 Try.underlying45 rfl (info8 (bigL_length _))) rfl ⟨rfl, E9.2⟩
    · have hil : i < 8 := by omega
      have i0 : (0 : Int) ≤ i := by omega
      have i1 : (i : Int) < 8 := by omega
      have d0 : decide ((i : Int) < 8) = true := decide_eq_true i1
      have c1 := R.out.a.cell (i := i) (by unfold nums; rw [List.getElem?_map, turnSt_get x hil]; rfl)
      have f1 := R.out.a.free i
      have l1 := digit_lt x i
      have S3 := hide (turnSt_step x hil)
      have e1 : (65535 : Int) - (digit x i : Nat) = ((65535 - digit x i : Nat) : Int) := by omega
      go_wp2
      go_roundw
      case rel =>
        refine ⟨i + 1, by omega, by go_num, ?_⟩
        show R2 _ _ _ _
        rw [← S3.out]
        exact R.out.set i (65535 - digit x i)
      case measure => simp [intOf]; omega

/-- What stands of the digits behind i rounds. -/
def ofSt (x i : Nat) : List Nat := (List.range 8).map fun j => if j % 4 < i then digit x j else 0
theorem ofSt_length (x i : Nat) : (ofSt x i).length = 8 := by simp [ofSt]
theorem ofSt_zero (x : Nat) : ofSt x 0 = z8 := by simp [ofSt, z8, List.range_succ]
theorem ofSt_all (x : Nat) : ofSt x 4 = bigL x := by
  unfold ofSt bigL
  apply List.map_congr_left
  intro j hj
  rw [if_pos (by omega)]
theorem ofSt_step (x : Nat) {i : Nat} (hi : i < 4) : ((ofSt x i).set i (digit x i)).set (4 + i) (digit x (4 + i)) = ofSt x (i + 1) := by
  match i, hi with
  | 0, _ => simp [ofSt, List.range_succ]
  | 1, _ => simp [ofSt, List.range_succ]
  | 2, _ => simp [ofSt, List.range_succ]
  | 3, _ => simp [ofSt, List.range_succ]
end Go.Proofs.Ythaaajepolahfaa
