/-
  The document's numbers of 128 bits (offertoryref09): Mul.
-/
import Derived.Test.YthaaajepolahfaaRefWideD
namespace Go.Proofs.Ythaaajepolahfaa
open Go.RowKit Wd
set_option linter.unusedVariables false

set_option maxHeartbeats 4000000 in
theorem refMul9_any (x y : Nat) (w : World) :
    Calls Try.prog 19 #[bv x, bv y] w fun e w' => e = .returned (bv (x * y)) ∧ Old w w' := by
  have K0 := hide (R4.start w (bigL x) (bigL y))
  have C1 : Hid (∀ a b w, Calls Try.prog 31 #[.agg (nums .u32 (bigL a)).toArray, .agg (nums .u32 (bigL b)).toArray] w fun e w' => e = .returned (.agg (nums .u32 (bigL (a + b))).toArray) ∧ Old w w') := fun a b w => refAdd9_any a b w
  unfold bv
  go_enter Try.func19, Try.ntmps19
  go_wp2_with (first
    | (refine wp_store_whole rfl 45 _ _ rfl (w.heap.size + 3) rfl (nums .u32 z8) rfl K0.out.d (info8 rfl) rfl (nums_oneCell _ _) ?_; rintro w1 h1
       have R1 := hide (K0.out.put z8 h1)
       clear h1 K0))
  go_loopw [6] (fun vi wr => ∃ i : Nat, i ≤ 8 ∧ vi = .int .i64 (i : Nat) ∧ Hid (R4 w (bigL x) (bigL y) z8 (bigL (x % 65536 ^ i * y)) wr)) (fun vi _ => (8 - intOf vi).toNat)
  case atStart => exact ⟨0, by omega, rfl, by show R4 _ _ _ _ _ _; rw [show x % 65536 ^ 0 * y = 0 by simp [Nat.mod_one]]; exact R1.out⟩
  case round =>
    clear R1
    obtain ⟨i, hi, rfl, R⟩ := hrel
    by_cases hi8 : i = 8
    · subst hi8
      rw [show ((8 : Nat) : Int) = 8 from rfl]
      have RT := hide R.out
      rw [mul_all] at RT
      clear R
      go_wp2_with (first
        | refine wp_load_whole rfl 45 _ rfl (w.heap.size + 3) rfl RT.out.d Try.underlying45 rfl (info8 (bigL_length _)) ?_
        | (refine wp_store_whole rfl 45 _ _ rfl (w.heap.size + 2) rfl (nums .u32 (bigL (x * y))) rfl RT.out.c (info8 (bigL_length _)) (by rw [nums_length, nums_length, bigL_length]; rfl) (nums_oneCell _ _) ?_; rintro w9 h9
           have E9 := RT.out.end_ _ h9
           clear h9))
      exact bodyPost_ret (v := .agg (nums .u32 (bigL (x * y))).toArray) (results_whole rfl rfl E9.1 Try.underlying45 rfl (info8 (bigL_length _))) rfl ⟨rfl, E9.2⟩
    · have hil : i < 8 := by omega
      have i0 : (0 : Int) ≤ i := by omega
      have i1 : (i : Int) < 8 := by omega
      have d0 : decide ((i : Int) < 8) = true := decide_eq_true i1
      have lp := digit_lt x i
      have MS := hide (mul_step x y i)
      have ga : w.heap.size + 3 < wr.heap.size := R.out.d.lt
      have GA := hide ga
      have Z1 : Hid (Row (wr.alloc (.cells (nums .u32 z8).toArray 45)) wr.heap.size 45 (nums .u32 z8)) := Row.new _ _ _
      have c1 : Hid (∀ wr', R4 w (bigL x) (bigL y) z8 (bigL (x % 65536 ^ i * y)) wr' → wr'.cell? ⟨w.heap.size, i, none⟩ = some (.int .u32 (digit x i : Nat))) := fun wr' h => h.a.cell (i := i) (by unfold nums; rw [List.getElem?_map, bigL_get x hil]; rfl)
      clear ga
      go_wp2_with (first
        | (refine wp_store_whole rfl 45 _ _ rfl wr.heap.size rfl (nums .u32 z8) rfl Z1.out (info8 rfl) rfl (nums_oneCell _ _) ?_; rintro w2 h2
           have RW : Hid (Row w2 wr.heap.size 45 (nums .u32 z8)) := by show Row _ _ _ _; rw [h2]; exact Z1.out.whole _
           have R2 : Hid (R4 w (bigL x) (bigL y) z8 (bigL (x % 65536 ^ i * y)) w2) := by show R4 _ _ _ _ _ _; rw [h2]; exact (R.out.mono (Old.of_alloc _ _)).grown (grown_setRow _ _ _) GA.out
           clear h2 Z1 R))
      revert c1 lp MS RW GA
      generalize digit x i = p
      generalize wr.heap.size = g
      intro lp MS GA c1 RW
      go_loopw [8, 9] (fun vc vk wr' => ∃ k : Nat, i + k ≤ 8 ∧ vk = .int .i64 (k : Nat) ∧ vc = .int .u64 (mcar p y k : Nat) ∧ Hid (R4 w (bigL x) (bigL y) z8 (bigL (x % 65536 ^ i * y)) wr') ∧ Hid (Row wr' g 45 (nums .u32 (rowSt p y i k)))) (fun _ vk _ => (8 - intOf vk).toNat)
      case atStart => exact ⟨0, by omega, rfl, by rw [mcar_zero]; rfl, R2, by show Row _ _ _ _; rw [rowSt_zero]; exact RW.out⟩
      case round =>
        clear R2 RW
        obtain ⟨k, hk, rfl, rfl, R2, RW⟩ := hrel
        have GB : w.heap.size + 3 < g := GA.out
        by_cases hk8 : i + k = 8
        · have d1 : decide ((i : Int) + k < 8) = false := decide_eq_false (by omega)
          have RB := hide RW.out
          rw [rowSt_all p y hk8] at RB
          clear RW
          go_wp2_with (first
            | refine wp_load_whole rfl 45 _ rfl (w.heap.size + 3) rfl R2.out.d Try.underlying45 rfl (info8 (bigL_length _)) ?_
            | refine wp_load_whole rfl 45 _ rfl g rfl RB.out Try.underlying45 rfl (info8 (bigL_length _)) ?_)
          refine (C1.out _ _ _).mono ?_
          rintro e w3 ⟨rfl, o3⟩
          have R3' := hide (R2.out.mono o3)
          rw [MS.out]
          clear R2 RB o3
          go_wp2_with (first
            | (refine wp_store_whole rfl 45 _ _ rfl (w.heap.size + 3) rfl (nums .u32 (bigL (x % 65536 ^ (i + 1) * y))) rfl R3'.out.d (info8 (bigL_length _)) (by rw [nums_length, nums_length, bigL_length, bigL_length]) (nums_oneCell _ _) ?_; rintro w9 h9
               have E9 := hide (R3'.out.put _ h9)
               clear h9))
          go_roundw
          case rel => exact ⟨i + 1, by omega, by go_num, E9⟩
          case measure => simp [intOf]; omega
        · have hkl : i + k < 8 := by omega
          have d1 : decide ((i : Int) + k < 8) = true := decide_eq_true (by omega)
          have k0 : (0 : Int) ≤ k := by omega
          have k1 : (k : Int) < 8 := by omega
          have q0 : (0 : Int) ≤ (i : Int) + k := by omega
          have q1 : (i : Int) + k < 8 := by omega
          have x1 := c1.out _ R2.out
          have x2 := R2.out.b.cell (i := k) (by unfold nums; rw [List.getElem?_map, bigL_get y (show k < 8 by omega)]; rfl)
          obtain ⟨z, _, x3⟩ := RW.out.num (i := i + k) (by rw [rowSt_length]; exact hkl)
          have f3 := RW.out.free (i + k)
          have ly := digit_lt y k
          have lc := mcar_lt lp y k
          have S1 := hide (mcar_step p y k)
          have S2 := hide (mcar_digit p y k)
          have S3 := hide (rowSt_step p y hkl)
          have PB : p * digit y k ≤ 65535 * 65535 := Nat.mul_le_mul (by omega) (by omega)
          revert x2 ly lc S1 S2 PB
          generalize digit y k = q
          generalize mcar p y k = c
          intro x2 ly lc S1 S2 PB
          go_wp2_with fail
          go_region
          go_wp2
          go_roundw
          case rel =>
            refine ⟨k + 1, by omega, by go_num, by rw [← S1.out]; rfl, ?_, ?_⟩
            · exact (R2.out.grown (grown_set wr g (i + k) _) GB).mono ((Old.refl _).drewN 1)
            · show Row _ _ _ _
              rw [← S3.out, ← S2.out, ← nums_set]
              exact (RW.out.set (i + k) _).drewN 1
          case measure => simp [intOf]; omega
end Go.Proofs.Ythaaajepolahfaa
