/-
  The document's numbers of 128 bits (offertoryref09): Shift.
-/
import Derived.Test.YtindmmipncclbaaDoorRefWide
namespace Go.Proofs.YtindmmipncclbaaDoor
open Go.RowKit Wd
set_option linter.unusedVariables false

theorem R2.put {w : World} {a b : List Nat} {wr : World} (h : R2 w a b wr) (a' : List Nat) {w' : World} (hw : w' = wr.setRow w.heap.size (nums .u32 a').toArray) : R2 w a' b w' := by
  subst hw
  exact ⟨h.a.whole _, h.b.grown (grown_setRow _ _ _) (by omega), h.old.grown (grown_setRow _ _ _) (Nat.le_refl _)⟩
/-- How often it is doubled. -/
def times (n : Int) : Nat := min n.toNat 128

set_option maxHeartbeats 2000000 in
theorem refShift9_any (x : Nat) (n : Int) (hn1 : -9223372036854775808 ≤ n) (hn2 : n ≤ 9223372036854775807) (w : World) :
    Calls Tryd.prog 21 #[bv x, .int .i64 n] w fun e w' => e = .returned (bv (x * 2 ^ times n)) ∧ Old w w' := by
  have K0 := hide (R2.start w (bigL x))
  have C1 : Hid (∀ y w, Calls Tryd.prog 13 #[.agg (nums .u32 (bigL y)).toArray, .agg (nums .u32 (bigL y)).toArray] w fun e w' => e = .returned (.agg (nums .u32 (bigL (y + y))).toArray) ∧ Old w w') := fun y w => refAdd9_any y y w
  have TN : Hid (∀ i : Nat, i ≤ times n → ¬((i : Int) < n ∧ i < 128) → i = times n) := fun i h1 h2 => by unfold times at *; omega
  have TL : Hid (∀ i : Nat, i ≤ times n → (i : Int) < n → i < 128 → i + 1 ≤ times n) := fun i h1 h2 h3 => by unfold times at *; omega
  have TB : times n ≤ 128 := by unfold times; omega
  unfold bv
  revert TN TL TB
  generalize times n = t
  intro TN TL TB
  go_enter Tryd.func21, Tryd.ntmps21
  go_wp2_with fail
  go_loopw [5] (fun vi wr => ∃ i : Nat, i ≤ t ∧ vi = .int .i64 (i : Nat) ∧ Hid (R2 w (bigL (x * 2 ^ i)) z8 wr)) (fun vi _ => (128 - intOf vi).toNat)
  case atStart => exact ⟨0, by omega, rfl, by show R2 _ _ _ _; rw [Nat.pow_zero, Nat.mul_one]; exact K0.out⟩
  case round =>
    clear K0
    obtain ⟨i, hi, rfl, R⟩ := hrel
    by_cases h1 : (i : Int) < n
    · have d1 : decide ((i : Int) < n) = true := decide_eq_true h1
      by_cases h2 : i < 128
      · have d2 : decide ((i : Int) < 128) = true := decide_eq_true (by omega)
        have hs := TL.out i hi h1 h2
        go_wp2_with (refine wp_load_whole rfl 27 _ rfl w.heap.size rfl R.out.a Tryd.underlying27 rfl (info8 (bigL_length _)) ?_)
        refine (C1.out _ _).mono ?_
        rintro e w1 ⟨rfl, o1⟩
        have R1 := hide (R.out.mono o1)
        clear R o1
        rw [show x * 2 ^ i + x * 2 ^ i = x * 2 ^ (i + 1) by rw [Nat.pow_succ, ← Nat.mul_assoc]; omega]
        go_wp2_with (first
          | (refine wp_store_whole rfl 27 _ _ rfl w.heap.size rfl (nums .u32 (bigL (x * 2 ^ (i + 1)))) rfl R1.out.a (info8 (bigL_length _)) (by rw [nums_length, nums_length, bigL_length, bigL_length]) (nums_oneCell _ _) ?_; rintro w9 h9
             have E9 := hide (R1.out.put _ h9)
             clear h9))
        go_roundw
        case rel => exact ⟨i + 1, by omega, by go_num, E9⟩
        case measure => simp [intOf]; omega
      · have d2 : decide ((i : Int) < 128) = false := decide_eq_false (by omega)
        have he := TN.out i hi (by omega)
        subst he
        go_wp2_with (first
          | refine wp_load_whole rfl 27 _ rfl w.heap.size rfl R.out.a Tryd.underlying27 rfl (info8 (bigL_length _)) ?_
          | (refine wp_store_whole rfl 27 _ _ rfl (w.heap.size + 1) rfl (nums .u32 (bigL (x * 2 ^ i))) rfl R.out.b (info8 (bigL_length _)) (by rw [nums_length, nums_length, bigL_length]; rfl) (nums_oneCell _ _) ?_; rintro w9 h9
             have E9 := R.out.end_ _ h9
             clear h9))
        exact bodyPost_ret (v := .agg (nums .u32 (bigL (x * 2 ^ i))).toArray) (results_whole rfl rfl E9.1 Tryd.underlying27 rfl (info8 (bigL_length _))) rfl ⟨rfl, E9.2⟩
    · have d1 : decide ((i : Int) < n) = false := decide_eq_false h1
      have he := TN.out i hi (by omega)
      subst he
      go_wp2_with (first
        | refine wp_load_whole rfl 27 _ rfl w.heap.size rfl R.out.a Tryd.underlying27 rfl (info8 (bigL_length _)) ?_
        | (refine wp_store_whole rfl 27 _ _ rfl (w.heap.size + 1) rfl (nums .u32 (bigL (x * 2 ^ i))) rfl R.out.b (info8 (bigL_length _)) (by rw [nums_length, nums_length, bigL_length]; rfl) (nums_oneCell _ _) ?_; rintro w9 h9
           have E9 := R.out.end_ _ h9
           clear h9))
      exact bodyPost_ret (v := .agg (nums .u32 (bigL (x * 2 ^ i))).toArray) (results_whole rfl rfl E9.1 Tryd.underlying27 rfl (info8 (bigL_length _))) rfl ⟨rfl, E9.2⟩
end Go.Proofs.YtindmmipncclbaaDoor
