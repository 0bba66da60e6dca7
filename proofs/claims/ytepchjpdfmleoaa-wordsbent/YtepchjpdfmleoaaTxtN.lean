/-
  Texts as lists of bytes; the check's steps in the program's own words. Nothing of the program.
-/
import Derived.Test.YtepchjpdfmleoaaSsbOps
import Derived.Test.YtepchjpdfmleoaaCrcN
import Derived.Laws.Bits64
import Derived.Laws.Bits64b
namespace Go.Proofs.Ytepchjpdfmleoaa
open Go.RowKit
set_option linter.unusedVariables false
namespace Cn

theorem bs_size (l : List Nat) : (Ssb.bstr l).size = l.length := by
  unfold Ssb.bstr
  rw [strOfNums_size]; simp
theorem bs_toList (l : List Nat) : (Ssb.bstr l).data.toList = l.map UInt8.ofNat := by
  unfold Ssb.bstr
  rw [strOfNums_data]
  simp
theorem bs_append (l m : List Nat) : Ssb.bstr l ++ Ssb.bstr m = Ssb.bstr (l ++ m) := by
  unfold Ssb.bstr strOfNums
  simp
  rfl
theorem xor_sum {a b k : Nat} (ha : a < 2 ^ k) : a ^^^ (b * 2 ^ k) = b * 2 ^ k + a := by
  apply Nat.eq_of_testBit_eq
  intro j
  rw [Nat.testBit_xor, Nat.mul_comm b, Nat.testBit_two_pow_mul, Nat.testBit_two_pow_mul_add b ha]
  by_cases h : j < k
  · simp [h, show ¬ k ≤ j by omega]
  · have : a.testBit j = false := Nat.testBit_lt_two_pow (Nat.lt_of_lt_of_le ha (Nat.pow_le_pow_right (by omega) (by omega)))
    simp [h, this, show k ≤ j by omega]
/-- The number moved up, with a bit more at the top. -/
theorem up_eq {n b : Nat} (hn : n < 4294967296) (hb : b < 2) : (n * 2) ^^^ (b * 4294967296) = (n / 2147483648 + b) % 2 * 4294967296 + n % 2147483648 * 2 := by
  have e : n * 2 = (n / 2147483648) * 4294967296 + n % 2147483648 * 2 := by omega
  have hlow : n % 2147483648 * 2 < 2 ^ 32 := by omega
  rw [e]
  have h1 := xor_sum (b := n / 2147483648) hlow
  have h2 := xor_sum (b := b) (a := n % 2147483648 * 2) (k := 32) hlow
  have p : (2 : Nat) ^ 32 = 4294967296 := rfl
  rw [p] at h1 h2
  rw [← h1, Nat.xor_assoc]
  have ht : n / 2147483648 < 2 := by omega
  rcases (show n / 2147483648 = 0 ∨ n / 2147483648 = 1 by omega) with h | h <;> rcases (show b = 0 ∨ b = 1 by omega) with h' | h' <;> rw [h, h'] <;> simp
  · rw [h'] at h2; simp at h2; omega
  · rw [h] at h1; simp at h1; omega
theorem down_eq {m : Nat} (hm : m < 4294967296) : (4294967296 + m) ^^^ 4374732215 = m ^^^ 79764919 := by
  have h1 := xor_sum (a := m) (b := 1) (k := 32) (by omega)
  have h2 := xor_sum (a := 79764919) (b := 1) (k := 32) (by omega)
  have p : (2 : Nat) ^ 32 = 4294967296 := rfl
  rw [p, Nat.one_mul] at h1 h2
  rw [show (4374732215 : Nat) = 4294967296 + 79764919 from rfl, ← h1, ← h2, Nat.xor_assoc, Nat.xor_comm 79764919 4294967296, ← Nat.xor_assoc 4294967296, Nat.xor_self, Nat.zero_xor]
end Cn
end Go.Proofs.Ytepchjpdfmleoaa
