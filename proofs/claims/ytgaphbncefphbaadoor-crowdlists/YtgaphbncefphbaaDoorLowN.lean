/-
  A set's first donor, and the set without it.
-/
import Derived.Test.YtgaphbncefphbaaDoorCrowdN
import Derived.Lib.TrailingZeros
namespace Go.Proofs.YtgaphbncefphbaaDoor.Cr
set_option linter.unusedVariables false

/-- A number without its lowest 1. -/
theorem low_at (k m j : Nat) : (2 ^ k * (2 * m + 1) &&& (2 ^ k * (2 * m + 1) - 1)).testBit j = (if j = k then false else (2 ^ k * (2 * m + 1)).testBit j) := by
  have hp := Nat.two_pow_pos k
  have e1 : 2 ^ k * (2 * m + 1) - 1 = 2 ^ k * (2 * m) + (2 ^ k - 1) := by rw [Nat.mul_add, Nat.mul_one]; omega
  have e2 : 2 ^ k * (2 * m + 1) = 2 ^ k * (2 * m + 1) + 0 := rfl
  rw [Nat.testBit_and, e1]
  rw [e2, Nat.testBit_two_pow_mul_add _ hp, Nat.testBit_two_pow_mul_add _ (by omega)]
  by_cases h : j < k
  · rw [if_pos h, if_pos h, if_neg (by omega)]
    simp
  · rw [if_neg h, if_neg h]
    by_cases h2 : j = k
    · subst h2
      simp
    · rw [if_neg h2]
      obtain ⟨t, ht⟩ : ∃ t, j - k = t + 1 := ⟨j - k - 1, by omega⟩
      rw [ht, Nat.testBit_succ, Nat.testBit_succ, show (2 * m + 1) / 2 = m by omega, show 2 * m / 2 = m by omega, Bool.and_self]
theorem low_bit (k m j : Nat) (h : j ≤ k) : (2 ^ k * (2 * m + 1)).testBit j = decide (j = k) := by
  have e2 : 2 ^ k * (2 * m + 1) = 2 ^ k * (2 * m + 1) + 0 := rfl
  rw [e2, Nat.testBit_two_pow_mul_add _ (Nat.two_pow_pos k)]
  by_cases h1 : j = k
  · subst h1
    rw [if_neg (by omega)]
    simp
  · rw [if_pos (by omega), Nat.zero_testBit, decide_eq_false h1]
theorem ctz_of (x : Nat) (h0 : x ≠ 0) (h : x < 18446744073709551616) : ∃ m, x = 2 ^ Lib.ctz 64 x * (2 * m + 1) ∧ Lib.ctz 64 x < 64 := by
  have e : Lib.ctz 64 x = Lib.ctzFrom 64 x := by simp [Lib.ctz, h0]
  rw [e]
  exact Lib.ctzFrom_spec 64 x (by omega) h
theorem lsTo_none {c k : Nat} (h : ∀ i, i < k → c.testBit i = false) : lsTo c k = [] := by
  rw [List.eq_nil_iff_forall_not_mem]
  intro d hd
  obtain ⟨h1, h2, h3⟩ := mem_lsTo.1 hd
  rw [h _ (by omega)] at h3
  cases h3
theorem first_rest {x : Nat} (h0 : x ≠ 0) (h : x < 18446744073709551616) : listC x = (Lib.ctz 64 x + 1) :: listC (x &&& (x - 1)) := by
  obtain ⟨m, hm, hk⟩ := ctz_of x h0 h
  generalize Lib.ctz 64 x = k at *
  suffices H : ∀ n, lsTo x (k + 1 + n) = (k + 1) :: lsTo (x &&& (x - 1)) (k + 1 + n) by
    have := H (63 - k)
    rwa [show k + 1 + (63 - k) = 64 by omega] at this
  intro n
  induction n with
  | zero =>
    have e1 : lsTo x k = [] := lsTo_none fun i hi => by rw [hm, low_bit k m i (by omega), decide_eq_false (by omega)]
    have e2 : lsTo (x &&& (x - 1)) (k + 1) = [] := lsTo_none fun i hi => by
      rw [hm, low_at]
      split
      · rfl
      · rw [low_bit k m i (by omega), decide_eq_false (by omega)]
    rw [Nat.add_zero, e2, lsTo_next, e1, if_pos (by rw [hm, low_bit k m k (Nat.le_refl _), decide_eq_true rfl])]
    rfl
  | succ n ih =>
    have e : (x &&& (x - 1)).testBit (k + 1 + n) = x.testBit (k + 1 + n) := by
      rw [hm, low_at, if_neg (by omega)]
    rw [← Nat.add_assoc, lsTo_next, lsTo_next, ih, e]
    rfl
theorem rest_size {x : Nat} (h0 : x ≠ 0) (h : x < 18446744073709551616) : sizeC x = sizeC (x &&& (x - 1)) + 1 := by
  unfold sizeC
  rw [first_rest h0 h]
  rfl
theorem listC_none : listC 0 = [] := by decide
end Go.Proofs.YtgaphbncefphbaaDoor.Cr
