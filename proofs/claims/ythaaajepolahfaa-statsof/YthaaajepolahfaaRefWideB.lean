/-
  The document's numbers of 128 bits (offertoryref09): Of, Wide.
-/
import Derived.Test.YthaaajepolahfaaRefWide
import Derived.Laws.Bits64b
namespace Go.Proofs.Ythaaajepolahfaa
open Go.RowKit Wd
set_option linter.unusedVariables false

theorem and16 {z : Int} {n d : Nat} (hz : z = n) (hn : n < 18446744073709551616) (hd : n % 65536 = d) : bits .and .u64 z 65535 % 4294967296 = (d : Int) := by
  subst hz
  have e := bits_and_u64_nat n 65535 hn (by omega)
  have e2 : n &&& 65535 = n % 65536 := Nat.and_two_pow_sub_one_eq_mod n 16
  rw [e2, hd] at e
  rw [show ((65535 : Nat) : Int) = 65535 from rfl] at e
  rw [e]
  omega
/-- Three blocks: a number, and twice its digits. -/
structure RO (w : World) (h l : Nat) (b c : List Nat) (wr : World) : Prop where
  a : Row wr w.heap.size 27 [.int .u64 (h : Nat), .int .u64 (l : Nat)]
  b : Row wr (w.heap.size + 1) 45 (nums .u32 b)
  c : Row wr (w.heap.size + 2) 45 (nums .u32 c)
  old : Old w wr
theorem RO.start (w : World) (h l : Nat) : RO w h l z8 z8 (((w.alloc (.cells #[.int .u64 (h : Nat), .int .u64 (l : Nat)] 27)).alloc (.cells (nums .u32 z8).toArray 45)).alloc (.cells (nums .u32 z8).toArray 45)) := by
  have A0 := Row.new w 27 [.int .u64 (h : Nat), .int .u64 (l : Nat)]
  have B := Row.new (w.alloc (.cells #[.int .u64 (h : Nat), .int .u64 (l : Nat)] 27)) 45 (nums .u32 z8)
  have C := Row.new ((w.alloc (.cells #[.int .u64 (h : Nat), .int .u64 (l : Nat)] 27)).alloc (.cells (nums .u32 z8).toArray 45)) 45 (nums .u32 z8)
  rw [size_allocW] at B C
  rw [size_allocW] at C
  exact ⟨(A0.mono (Old.of_alloc _ _)).mono (Old.of_alloc _ _), B.mono (Old.of_alloc _ _), C, ((Old.of_alloc _ _).alloc _).alloc _⟩
theorem RO.put {w : World} {h l : Nat} {b c : List Nat} {wr : World} (H : RO w h l b c wr) (c' : List Nat) {w' : World} (hw : w' = wr.setRow (w.heap.size + 2) (nums .u32 c').toArray) : RO w h l b c' w' := by
  subst hw
  exact ⟨H.a.grown (grown_setRow _ _ _) (by omega), H.b.grown (grown_setRow _ _ _) (by omega), H.c.whole _, H.old.grown (grown_setRow _ _ _) (by omega)⟩
theorem RO.set {w : World} {h l : Nat} {b c : List Nat} {wr : World} (H : RO w h l b c wr) (i z : Nat) : RO w h l b (c.set i z) (wr.setCell ⟨w.heap.size + 2, i, none⟩ (.int .u32 (z : Int))) :=
  ⟨H.a.grown (grown_set _ _ _ _) (by omega), H.b.grown (grown_set _ _ _ _) (by omega), by rw [← nums_set]; exact H.c.set _ _, H.old.grown (grown_set _ _ _ _) (by omega)⟩
theorem RO.end_ {w : World} {h l : Nat} {b c : List Nat} {wr : World} (H : RO w h l b c wr) (c' : List Nat) {w' : World} (hw : w' = wr.setRow (w.heap.size + 1) (nums .u32 c').toArray) : Row w' (w.heap.size + 1) 45 (nums .u32 c') ∧ Old w w' := by
  subst hw
  exact ⟨H.b.whole _, H.old.grown (grown_setRow _ _ _) (by omega)⟩

set_option maxHeartbeats 4000000 in
theorem refOf9_any (x : Nat) (w : World) :
    Calls Try.prog 18 #[wv x] w fun e w' => e = .returned (bv x) ∧ Old w w' := by
  have K0 := hide (RO.start w (hi x) (lo x))
  have l1 := hi_lt x
  have l2 := lo_lt x
  have D1 : Hid (∀ j, j < 4 → lo x / 65536 ^ j % 65536 = digit x j) := fun j hj => lo_digit x hj
  have D2 : Hid (∀ j, j < 4 → hi x / 65536 ^ j % 65536 = digit x (4 + j)) := fun j hj => hi_digit x hj
  unfold wv bv
  revert K0 l1 l2 D1 D2
  generalize hi x = h
  generalize lo x = l
  intro K0 l1 l2 D1 D2
  go_enter Try.func18, Try.ntmps18
  go_wp2_with (first
    | (refine wp_store_whole rfl 45 _ _ rfl (w.heap.size + 2) rfl (nums .u32 z8) rfl K0.out.c (info8 rfl) rfl (nums_oneCell _ _) ?_; rintro w1 h1
       have R1 := hide (K0.out.put z8 h1)
       clear h1 K0))
  go_loopw [4] (fun vi wr => ∃ i : Nat, i ≤ 4 ∧ vi = .int .i64 (i : Nat) ∧ Hid (RO w h l z8 (ofSt x i) wr)) (fun vi _ => (4 - intOf vi).toNat)
  case atStart => exact ⟨0, by omega, rfl, by show RO _ _ _ _ _ _; rw [ofSt_zero]; exact R1.out⟩
  case round =>
    clear R1
    obtain ⟨i, hi4, rfl, R⟩ := hrel
    by_cases he : i = 4
    · subst he
      rw [show ((4 : Nat) : Int) = 4 from rfl]
      have RT := hide R.out
      rw [ofSt_all] at RT
      clear R
      go_wp2_with (first
        | refine wp_load_whole rfl 45 _ rfl (w.heap.size + 2) rfl RT.out.c Try.underlying45 rfl (info8 (bigL_length _)) ?_
        | (refine wp_store_whole rfl 45 _ _ rfl (w.heap.size + 1) rfl (nums .u32 (bigL x)) rfl RT.out.b (info8 (bigL_length _)) (by rw [nums_length, nums_length, bigL_length]; rfl) (nums_oneCell _ _) ?_; rintro w9 h9
           have E9 := RT.out.end_ _ h9
           clear h9))
      exact bodyPost_ret (v := .agg (nums .u32 (bigL x)).toArray) (results_whole rfl rfl E9.1 Try.underlying45 rfl (info8 (bigL_length _))) rfl ⟨rfl, E9.2⟩
    · have hil : i < 4 := by omega
      have S3 := hide (ofSt_step x hil)
      have ch := R.out.a.cell (i := 0) rfl
      have cl := R.out.a.cell (i := 1) rfl
      obtain ⟨y1, _, c1⟩ := R.out.c.num (i := i) (by rw [ofSt_length]; omega)
      obtain ⟨y2, _, c2⟩ := R.out.c.num (i := 4 + i) (by rw [ofSt_length]; omega)
      have f1 := R.out.c.free i
      have f2 := R.out.c.free (4 + i)
      have M1 := D1.out i hil
      have M2 := D2.out i hil
      match i, hil with
      | 0, _ =>
        have e1 : bits .and .u64 (l : Int) 65535 % 4294967296 = ((digit x 0 : Nat) : Int) := and16 (n := l) (by omega) (by omega) (by simpa using M1)
        have e2 : bits .and .u64 (h : Int) 65535 % 4294967296 = ((digit x 4 : Nat) : Int) := and16 (n := h) (by omega) (by omega) (by simpa using M2)
        have R9 := hide ((R.out.set 0 (digit x 0)).set 4 (digit x 4))
        rw [show ((ofSt x 0).set 0 (digit x 0)).set 4 (digit x 4) = ofSt x 1 from S3.out] at R9
        clear M1 M2 S3 D1 D2
        go_wp2
        go_roundw
        case rel =>
          refine ⟨1, by omega, rfl, ?_⟩
          exact R9
        case measure => simp [intOf]
      | 1, _ =>
        have e1 : bits .and .u64 ((l : Int) / 65536) 65535 % 4294967296 = ((digit x 1 : Nat) : Int) := and16 (n := (l / 65536)) (by omega) (by omega) (by simpa using M1)
        have e2 : bits .and .u64 ((h : Int) / 65536) 65535 % 4294967296 = ((digit x 5 : Nat) : Int) := and16 (n := (h / 65536)) (by omega) (by omega) (by simpa using M2)
        have R9 := hide ((R.out.set 1 (digit x 1)).set 5 (digit x 5))
        rw [show ((ofSt x 1).set 1 (digit x 1)).set 5 (digit x 5) = ofSt x 2 from S3.out] at R9
        clear M1 M2 S3 D1 D2
        go_wp2
        go_roundw
        case rel =>
          refine ⟨2, by omega, rfl, ?_⟩
          exact R9
        case measure => simp [intOf]
      | 2, _ =>
        have e1 : bits .and .u64 ((l : Int) / 4294967296) 65535 % 4294967296 = ((digit x 2 : Nat) : Int) := and16 (n := (l / 4294967296)) (by omega) (by omega) (by simpa using M1)
        have e2 : bits .and .u64 ((h : Int) / 4294967296) 65535 % 4294967296 = ((digit x 6 : Nat) : Int) := and16 (n := (h / 4294967296)) (by omega) (by omega) (by simpa using M2)
        have R9 := hide ((R.out.set 2 (digit x 2)).set 6 (digit x 6))
        rw [show ((ofSt x 2).set 2 (digit x 2)).set 6 (digit x 6) = ofSt x 3 from S3.out] at R9
        clear M1 M2 S3 D1 D2
        go_wp2
        go_roundw
        case rel =>
          refine ⟨3, by omega, rfl, ?_⟩
          exact R9
        case measure => simp [intOf]
      | 3, _ =>
        have e1 : bits .and .u64 ((l : Int) / 281474976710656) 65535 % 4294967296 = ((digit x 3 : Nat) : Int) := and16 (n := (l / 281474976710656)) (by omega) (by omega) (by simpa using M1)
        have e2 : bits .and .u64 ((h : Int) / 281474976710656) 65535 % 4294967296 = ((digit x 7 : Nat) : Int) := and16 (n := (h / 281474976710656)) (by omega) (by omega) (by simpa using M2)
        have R9 := hide ((R.out.set 3 (digit x 3)).set 7 (digit x 7))
        rw [show ((ofSt x 3).set 3 (digit x 3)).set 7 (digit x 7) = ofSt x 4 from S3.out] at R9
        clear M1 M2 S3 D1 D2
        go_wp2
        go_roundw
        case rel =>
          refine ⟨4, by omega, rfl, ?_⟩
          exact R9
        case measure => simp [intOf]

theorem or16 {z : Int} {n d e : Nat} (hz : z = ((n * 65536 : Nat) : Int)) (hn : n < 281474976710656) (hd : d < 65536) (he : n * 65536 + d = e) : bits .or .u64 z (d : Int) = (e : Int) := by
  subst hz
  have h := bits_or_u64_nat (n * 65536) d (by omega) (by omega)
  have e2 : n * 65536 ||| d = n * 65536 + d := by
    have := Nat.shiftLeft_add_eq_or_of_lt (b := d) (i := 16) (by simpa using hd) n
    rw [Nat.shiftLeft_eq] at this
    simpa using this.symm
  rw [e2, he] at h
  exact h

/-- Three blocks: digits, and twice a number. -/
structure RV (w : World) (a : List Nat) (h1 l1 h2 l2 : Nat) (wr : World) : Prop where
  a : Row wr w.heap.size 45 (nums .u32 a)
  b : Row wr (w.heap.size + 1) 27 [.int .u64 (h1 : Nat), .int .u64 (l1 : Nat)]
  c : Row wr (w.heap.size + 2) 27 [.int .u64 (h2 : Nat), .int .u64 (l2 : Nat)]
  old : Old w wr
theorem RV.start (w : World) (a : List Nat) : RV w a 0 0 0 0 (((w.alloc (.cells (nums .u32 a).toArray 45)).alloc (.cells #[.int .u64 0, .int .u64 0] 27)).alloc (.cells #[.int .u64 0, .int .u64 0] 27)) := by
  have A0 := Row.new w 45 (nums .u32 a)
  have B := Row.new (w.alloc (.cells (nums .u32 a).toArray 45)) 27 [.int .u64 0, .int .u64 0]
  have C := Row.new ((w.alloc (.cells (nums .u32 a).toArray 45)).alloc (.cells #[.int .u64 0, .int .u64 0] 27)) 27 [.int .u64 0, .int .u64 0]
  rw [size_allocW] at B C
  rw [size_allocW] at C
  exact ⟨(A0.mono (Old.of_alloc _ _)).mono (Old.of_alloc _ _), B.mono (Old.of_alloc _ _), C, ((Old.of_alloc _ _).alloc _).alloc _⟩
theorem RV.put {w : World} {a : List Nat} {h1 l1 h2 l2 : Nat} {wr : World} (H : RV w a h1 l1 h2 l2 wr) (h l : Nat) {w' : World} (hw : w' = wr.setRow (w.heap.size + 2) [.int .u64 (h : Nat), .int .u64 (l : Nat)].toArray) : RV w a h1 l1 h l w' := by
  subst hw
  exact ⟨H.a.grown (grown_setRow _ _ _) (by omega), H.b.grown (grown_setRow _ _ _) (by omega), H.c.whole _, H.old.grown (grown_setRow _ _ _) (by omega)⟩
theorem RV.lo {w : World} {a : List Nat} {h1 l1 h2 l2 : Nat} {wr : World} (H : RV w a h1 l1 h2 l2 wr) (l : Nat) : RV w a h1 l1 h2 l (wr.setCell ⟨w.heap.size + 2, 1, none⟩ (.int .u64 (l : Int))) :=
  ⟨H.a.grown (grown_set _ _ _ _) (by omega), H.b.grown (grown_set _ _ _ _) (by omega), H.c.set 1 _, H.old.grown (grown_set _ _ _ _) (by omega)⟩
theorem RV.hi {w : World} {a : List Nat} {h1 l1 h2 l2 : Nat} {wr : World} (H : RV w a h1 l1 h2 l2 wr) (h : Nat) : RV w a h1 l1 h l2 (wr.setCell ⟨w.heap.size + 2, 0, none⟩ (.int .u64 (h : Int))) :=
  ⟨H.a.grown (grown_set _ _ _ _) (by omega), H.b.grown (grown_set _ _ _ _) (by omega), H.c.set 0 _, H.old.grown (grown_set _ _ _ _) (by omega)⟩
theorem RV.drewN {w : World} {a : List Nat} {h1 l1 h2 l2 : Nat} {wr : World} (H : RV w a h1 l1 h2 l2 wr) (n : Nat) : RV w a h1 l1 h2 l2 (wr.drewN n) := ⟨H.a.drewN n, H.b.drewN n, H.c.drewN n, H.old.drewN n⟩
theorem RV.end_ {w : World} {a : List Nat} {h1 l1 h2 l2 : Nat} {wr : World} (H : RV w a h1 l1 h2 l2 wr) (h l : Nat) {w' : World} (hw : w' = wr.setRow (w.heap.size + 1) [.int .u64 (h : Nat), .int .u64 (l : Nat)].toArray) : Row w' (w.heap.size + 1) 27 [.int .u64 (h : Nat), .int .u64 (l : Nat)] ∧ Old w w' := by
  subst hw
  exact ⟨H.b.whole _, H.old.grown (grown_setRow _ _ _) (by omega)⟩
theorem two_ints (a b : Nat) : ∀ v ∈ [Value.int .u64 (a : Nat), .int .u64 (b : Nat)], v.oneCell' = true := by
  intro v hv
  simp at hv
  rcases hv with rfl | rfl <;> rfl

set_option maxHeartbeats 4000000 in
theorem refWide9_any (x : Nat) (w : World) :
    Calls Try.prog 20 #[bv x] w fun e w' => e = .returned (wv x) ∧ Old w w' := by
  have K0 := hide (RV.start w (bigL x))
  have W0 : Hid (loTop x 0 = lo x ∧ hiTop x 0 = hi x) := ⟨by simp [loTop], by simp [hiTop]⟩
  have W4 : Hid (loTop x 4 = 0 ∧ hiTop x 4 = 0) := ⟨by have := lo_lt x; unfold loTop; omega, by have := hi_lt x; unfold hiTop; omega⟩
  have B1 : Hid (∀ i, loTop x (i + 1) < 281474976710656) := fun i => by
    have := lo_lt x
    unfold loTop
    rw [Nat.pow_succ', ← Nat.div_div_eq_div_mul]
    exact Nat.lt_of_le_of_lt (Nat.div_le_self _ _) (by omega)
  have B2 : Hid (∀ i, hiTop x (i + 1) < 281474976710656) := fun i => by
    have := hi_lt x
    unfold hiTop
    rw [Nat.pow_succ', ← Nat.div_div_eq_div_mul]
    exact Nat.lt_of_le_of_lt (Nat.div_le_self _ _) (by omega)
  unfold wv bv
  go_enter Try.func20, Try.ntmps20
  go_wp2_with (first
    | (refine wp_store_whole rfl 27 _ _ rfl (w.heap.size + 2) rfl [.int .u64 ((0 : Nat) : Int), .int .u64 ((0 : Nat) : Int)] rfl K0.out.c infoW rfl (two_ints 0 0) ?_; rintro w1 h1
       have R1 := hide (K0.out.put 0 0 h1)
       clear h1 K0))
  go_loopw [4] (fun vi wr => ∃ k : Nat, k ≤ 4 ∧ vi = .int .i64 ((k : Int) - 1) ∧ Hid (RV w (bigL x) 0 0 (hiTop x k) (loTop x k) wr)) (fun vi _ => (intOf vi + 1).toNat)
  case atStart => exact ⟨4, by omega, rfl, by show RV _ _ _ _ _ _ _; rw [W4.out.1, W4.out.2]; exact R1.out⟩
  case round =>
    clear R1 W4
    obtain ⟨k, hk, rfl, R⟩ := hrel
    match k, hk with
    | 0, _ =>
      have g1 : decide ((0 : Int) ≤ ((0 : Nat) : Int) - 1) = false := by simp
      have RT := hide R.out
      rw [W0.out.1, W0.out.2] at RT
      clear R
      go_wp2_with (first
        | refine wp_load_whole rfl 27 _ rfl (w.heap.size + 2) rfl RT.out.c Try.underlying27 rfl infoW ?_
        | (refine wp_store_whole rfl 27 _ _ rfl (w.heap.size + 1) rfl [.int .u64 (hi x : Nat), .int .u64 (lo x : Nat)] rfl RT.out.b infoW rfl (two_ints _ _) ?_; rintro w9 h9
           have E9 := RT.out.end_ _ _ h9
           clear h9))
      exact bodyPost_ret (v := .agg #[.int .u64 (hi x : Nat), .int .u64 (lo x : Nat)]) (results_whole rfl rfl E9.1 Try.underlying27 rfl infoW) rfl ⟨rfl, E9.2⟩
    | k + 1, hk =>
      have e1 : (((k + 1 : Nat) : Int) - 1) = (k : Int) := by omega
      have k0 : (0 : Int) ≤ k := by omega
      have k1 : (k : Int) < 8 := by omega
      have k2 : (k : Int) < 4 := by omega
      have q0 : (0 : Int) ≤ 4 + (k : Int) := by omega
      have q1 : 4 + (k : Int) < 8 := by omega
      have c1 := R.out.a.cell (i := k) (by unfold nums; rw [List.getElem?_map, bigL_get x (show k < 8 by omega)]; rfl)
      have c2 := R.out.a.cell (i := 4 + k) (by unfold nums; rw [List.getElem?_map, bigL_get x (show 4 + k < 8 by omega)]; rfl)
      have ch := R.out.c.cell (i := 0) rfl
      have cl := R.out.c.cell (i := 1) rfl
      have f0 := R.out.c.free 0
      have f1 := R.out.c.free 1
      have l1 := digit_lt x k
      have l2 := digit_lt x (4 + k)
      have b1 := B1.out k
      have b2 := B2.out k
      have S1 := hide (loTop_step x (show k < 4 by omega))
      have S2 := hide (hiTop_step x (show k < 4 by omega))
      revert c1 c2 ch cl l1 l2 b1 b2 S1 S2 R
      generalize digit x k = p
      generalize digit x (4 + k) = q
      generalize loTop x (k + 1) = ll
      generalize hiTop x (k + 1) = hh
      intro R c1 c2 ch cl l1 l2 b1 b2 S1 S2
      have C2 := hide c2
      clear c2
      have o1 : bits .or .u64 ((ll : Int) * 65536) (p : Int) = ((loTop x k : Nat) : Int) := or16 (n := ll) (by omega) b1 l1 S1.out
      have o2 : bits .or .u64 ((hh : Int) * 65536) (q : Int) = ((hiTop x k : Nat) : Int) := or16 (n := hh) (by omega) b2 l2 S2.out
      rw [e1]
      go_wp2_with fail
      go_region
      go_wp2_with fail
      obtain ⟨V, hV⟩ : ∃ V, V = (wr.setCell ⟨w.heap.size + 1 + 1, 1, none⟩ (.int .u64 (loTop x k : Nat))).drew := ⟨_, rfl⟩
      have RA : Hid (RV w (bigL x) 0 0 hh (loTop x k) V) := by
        show RV _ _ _ _ _ _ _
        rw [hV]
        exact (R.out.lo (loTop x k)).drewN 1
      rw [← hV]
      have d2 : V.cell? ⟨w.heap.size, 4 + k, none⟩ = some (.int .u32 (q : Int)) := by
        have h1 := C2.out
        rw [hV]
        rw [show ((wr.setCell ⟨w.heap.size + 1 + 1, 1, none⟩ (.int .u64 (loTop x k : Nat))).drew).cell? ⟨w.heap.size, 4 + k, none⟩ = (wr.setCell ⟨w.heap.size + 1 + 1, 1, none⟩ (.int .u64 (loTop x k : Nat))).cell? ⟨w.heap.size, 4 + k, none⟩ from rfl]
        exact (grown_set wr (w.heap.size + 1 + 1) 1 _).cell h1 (by simp; omega)
      have dh := RA.out.c.cell (i := 0) rfl
      have g0 := RA.out.c.free 0
      clear hV c1 cl ch f0 f1
      go_region
      go_wp2
      go_roundw
      case rel =>
        refine ⟨k, by omega, by go_num, ?_⟩
        exact (RA.out.hi (hiTop x k)).drewN 1
      case measure => simp [intOf]
end Go.Proofs.Ythaaajepolahfaa
