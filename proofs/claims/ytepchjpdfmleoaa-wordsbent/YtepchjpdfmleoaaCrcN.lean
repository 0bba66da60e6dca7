/-
  The check of bytes (CRC-32), as the document tells it: from 2^32 - 1 on, a bit at a time, the lowest first. Plain mathematics: nothing of the program.
-/
import Derived.Test.YtepchjpdfmleoaaMem
namespace Go.Proofs.Ytepchjpdfmleoaa
set_option linter.unusedVariables false
namespace Cn

def poly : Nat := 3988292384
/-- A bit more. -/
def stp (n b : Nat) : Nat := if (n + b) % 2 = 1 then (n / 2) ^^^ poly else n / 2
def stps : List Nat → Nat → Nat
  | [], n => n
  | b :: l, n => stps l (stp n b)
/-- A byte's bits, the lowest first. -/
def bits8 (x : Nat) : List Nat := (List.range 8).map fun k => x / 2 ^ k % 2
def bitsOf (l : List Nat) : List Nat := l.flatMap bits8
def crc (l : List Nat) : Nat := 4294967295 - stps (bitsOf l) 4294967295
theorem half_lt {n : Nat} (h : n < 4294967296) : n / 2 < 2147483648 := by omega
theorem stp_lt {n b : Nat} (h : n < 4294967296) : stp n b < 4294967296 := by
  unfold stp
  split
  · exact Nat.xor_lt_two_pow (n := 32) (by omega) (by decide)
  · omega
theorem stps_lt : ∀ (l : List Nat) {n : Nat}, n < 4294967296 → stps l n < 4294967296
  | [], _, h => h
  | b :: l, n, h => stps_lt l (stp_lt h)
theorem stps_append : ∀ (l m : List Nat) (n : Nat), stps (l ++ m) n = stps m (stps l n)
  | [], _, _ => rfl
  | b :: l, m, n => stps_append l m (stp n b)
/-- The topmost bit tells whether something went out. -/
theorem stp_top {n b : Nat} (h : n < 4294967296) : (stp n b).testBit 31 = decide ((n + b) % 2 = 1) := by
  have h1 : (n / 2).testBit 31 = false := Nat.testBit_lt_two_pow (by omega)
  unfold stp
  split
  · rename_i h2
    rw [Nat.testBit_xor, h1, show poly.testBit 31 = true by decide]
    simp [h2]
  · rename_i h2
    rw [h1]
    simp [h2]
theorem xor_cancel {a b c : Nat} (h : a ^^^ c = b ^^^ c) : a = b := by
  have := congrArg (· ^^^ c) h
  simpa [Nat.xor_assoc] using this
/-- Of the same bit: other numbers stay others. -/
theorem stp_inj {n m b : Nat} (hn : n < 4294967296) (hm : m < 4294967296) (h : stp n b = stp m b) : n = m := by
  have t := congrArg (·.testBit 31) h
  simp only [stp_top hn, stp_top hm] at t
  have t' : ((n + b) % 2 = 1) ↔ ((m + b) % 2 = 1) := by simpa using t
  unfold stp at h
  by_cases h1 : (n + b) % 2 = 1
  · rw [if_pos h1, if_pos (t'.1 h1)] at h
    have := xor_cancel h
    have := t'.1 h1
    omega
  · rw [if_neg h1, if_neg (fun h2 => h1 (t'.2 h2))] at h
    have : ¬ (m + b) % 2 = 1 := fun h2 => h1 (t'.2 h2)
    omega
/-- Of another bit: the number is another. -/
theorem stp_other {n b c : Nat} (hn : n < 4294967296) (h : b % 2 ≠ c % 2) : stp n b ≠ stp n c := by
  intro e
  have t := congrArg (·.testBit 31) e
  simp only [stp_top hn] at t
  have t' : ((n + b) % 2 = 1) ↔ ((n + c) % 2 = 1) := by simpa using t
  omega
theorem stps_inj : ∀ (l : List Nat) {n m : Nat}, n < 4294967296 → m < 4294967296 → stps l n = stps l m → n = m
  | [], _, _, _, _, h => h
  | b :: l, n, m, hn, hm, h => stp_inj hn hm (stps_inj l (stp_lt hn) (stp_lt hm) h)
/-- One bit turned: the check is another. -/
theorem stps_bent (l m : List Nat) {b c n : Nat} (hn : n < 4294967296) (h : b % 2 ≠ c % 2) : stps (l ++ b :: m) n ≠ stps (l ++ c :: m) n := by
  intro e
  rw [stps_append, stps_append] at e
  have h1 := stps_lt l hn
  exact stp_other h1 h (stps_inj m (stp_lt h1) (stp_lt h1) e)

/-- The bits turned round. -/
def rev (n : Nat) : Nat := (List.range 32).foldl (fun a i => a * 2 + n / 2 ^ i % 2) 0
/-- The document's second way: the bits turned round, divided by the highest first. -/
def dstp (n b : Nat) : Nat := if (n / 2147483648 + b) % 2 = 1 then (n % 2147483648 * 2) ^^^ 79764919 else n % 2147483648 * 2
def dstps : List Nat → Nat → Nat
  | [], n => n
  | b :: l, n => dstps l (dstp n b)
theorem dstp_lt {n b : Nat} (h : n < 4294967296) : dstp n b < 4294967296 := by
  unfold dstp
  split
  · exact Nat.xor_lt_two_pow (n := 32) (by omega) (by decide)
  · omega
theorem foldl_bits (f : Nat → Nat) (hf : ∀ i, f i < 2) : ∀ (k j : Nat), ((List.range k).foldl (fun a i => a * 2 + f i) 0).testBit j = (decide (j < k) && decide (f (k - 1 - j) = 1))
  | 0, j => by simp
  | k + 1, j => by
    rw [List.range_succ, List.foldl_append, List.foldl_cons, List.foldl_nil]
    cases j with
    | zero =>
      rw [Nat.testBit_zero]
      have := hf k
      simp only [Nat.zero_lt_succ, decide_true, Bool.true_and, Nat.add_sub_cancel, Nat.sub_zero]
      rcases (show f k = 0 ∨ f k = 1 by omega) with h | h <;> rw [h] <;> simp <;> omega
    | succ j =>
      have hk := hf k
      rw [Nat.testBit_succ, show ((List.range k).foldl (fun a i => a * 2 + f i) 0 * 2 + f k) / 2 = (List.range k).foldl (fun a i => a * 2 + f i) 0 by omega, foldl_bits f hf k j]
      congr 1
      · simp
      · rw [show k + 1 - 1 - (j + 1) = k - 1 - j by omega]
theorem rev_bit (n j : Nat) : (rev n).testBit j = (decide (j < 32) && n.testBit (31 - j)) := by
  unfold rev
  rw [foldl_bits (fun i => n / 2 ^ i % 2) (fun i => Nat.mod_lt _ (by omega)) 32 j]
  congr 1
  rw [Nat.testBit_eq_decide_div_mod_eq]
theorem rev_lt (n : Nat) : rev n < 4294967296 := by
  apply Nat.lt_pow_two_of_testBit (n := 32)
  intro i hi
  rw [rev_bit]
  simp; omega
theorem dbl_bit (n j : Nat) (h : n < 4294967296) : (n % 2147483648 * 2).testBit j = (decide (1 ≤ j) && decide (j < 32) && n.testBit (j - 1)) := by
  cases j with
  | zero => rw [Nat.testBit_zero]; simp
  | succ j =>
    rw [Nat.testBit_succ, Nat.mul_div_cancel _ (by omega : 0 < 2), show (2147483648 : Nat) = 2 ^ 31 from rfl, Nat.testBit_mod_two_pow, show decide (j < 31) = decide (j + 1 < 32) from decide_eq_decide.2 (by omega)]
    simp
/-- Both ways are one. -/
theorem rev_stp {n b : Nat} (h : n < 4294967296) : rev (dstp n b) = stp (rev n) b := by
  have top : n / 2147483648 % 2 = rev n % 2 := by
    have h1 : (rev n).testBit 0 = n.testBit 31 := by rw [rev_bit]; simp
    rw [Nat.testBit_zero, Nat.testBit_eq_decide_div_mod_eq] at h1
    have h2 : (rev n % 2 = 1) ↔ (n / 2 ^ 31 % 2 = 1) := by simpa using h1
    have e : (2 : Nat) ^ 31 = 2147483648 := rfl
    rw [e] at h2
    omega
  have hp : rev 79764919 = poly := by decide +kernel
  have half : ∀ j, ((rev n) / 2).testBit j = (decide (j < 31) && n.testBit (30 - j)) := by
    intro j
    rw [← Nat.testBit_succ, rev_bit]
    congr 1
    · simp
      omega
    · rw [show 31 - (j + 1) = 30 - j by omega]
  have base : ∀ j, (rev (n % 2147483648 * 2)).testBit j = ((rev n) / 2).testBit j := by
    intro j
    rw [rev_bit, dbl_bit n _ h, half]
    by_cases hj : j < 31
    · have a1 : 1 ≤ 31 - j := by omega
      have a2 : 31 - j < 32 := by omega
      simp [hj, a1, a2, show j < 32 by omega, show 31 - j - 1 = 30 - j by omega]
    · have : ¬ 1 ≤ 31 - j := by omega
      simp [hj, this]
  unfold dstp stp
  have ht : ((n / 2147483648 + b) % 2 = 1) ↔ ((rev n + b) % 2 = 1) := by omega
  by_cases h1 : (n / 2147483648 + b) % 2 = 1
  · rw [if_pos h1, if_pos (ht.1 h1)]
    apply Nat.eq_of_testBit_eq
    intro j
    rw [rev_bit, Nat.testBit_xor, Nat.testBit_xor, ← base j, ← hp, rev_bit, rev_bit]
    cases decide (j < 32) <;> simp
  · rw [if_neg h1, if_neg (fun h2 => h1 (ht.2 h2))]
    exact Nat.eq_of_testBit_eq base
theorem rev_stps : ∀ (l : List Nat) {n : Nat}, n < 4294967296 → rev (dstps l n) = stps l (rev n)
  | [], _, _ => rfl
  | b :: l, n, h => by
    rw [dstps, stps, rev_stps l (dstp_lt h), rev_stp h]
end Cn
end Go.Proofs.Ytepchjpdfmleoaa
