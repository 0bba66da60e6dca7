/-
  The bits of a number, counted in a column of a vector, the lowest 1 first. Plain mathematics: nothing of the program.
-/
import Derived.Test.YtegegfoogkpncaaDoorTallyN
import Derived.Lib.TrailingZeros
namespace Go.Proofs.YtegegfoogkpncaaDoor
set_option linter.unusedVariables false
namespace Pn

/-- From place off on: one more where the bit is 1. -/
def addB (off m : Nat) (vs : List Nat) : List Nat := vs.mapIdx fun i v => if off ≤ i ∧ m.testBit (i - off) = true then (v + 1) % 4294967296 else v
theorem addB_length (off m : Nat) (vs : List Nat) : (addB off m vs).length = vs.length := by simp [addB]
theorem addB_get (off m : Nat) (vs : List Nat) (i : Nat) : (addB off m vs)[i]? = vs[i]?.map fun v => if off ≤ i ∧ m.testBit (i - off) = true then (v + 1) % 4294967296 else v := by simp [addB]
theorem addB_zero (off : Nat) (vs : List Nat) : addB off 0 vs = vs := by
  apply List.ext_getElem?
  intro i
  rw [addB_get]
  cases vs[i]? <;> simp
/-- A number without its lowest 1. -/
theorem low_at (k m j : Nat) : (2 ^ k * (2 * m + 1) &&& (2 ^ k * (2 * m + 1) - 1)).testBit j = (if j = k then false else (2 ^ k * (2 * m + 1)).testBit j) := by
  have hp := Nat.two_pow_pos k
  have e1 : 2 ^ k * (2 * m + 1) - 1 = 2 ^ k * (2 * m) + (2 ^ k - 1) := by rw [Nat.mul_add, Nat.mul_one]; omega
  have e2 : 2 ^ k * (2 * m + 1) = 2 ^ k * (2 * m + 1) + 0 := rfl
  rw [Nat.testBit_and, e1]
  rw [e2, Nat.testBit_two_pow_mul_add _ hp, Nat.testBit_two_pow_mul_add _ (by omega)]
  by_cases h : j < k
  · rw [if_pos h, if_pos h, if_neg (by omega)]
    simp
  · rw [if_neg h, if_neg h]
    by_cases h2 : j = k
    · subst h2
      simp
    · rw [if_neg h2]
      obtain ⟨t, ht⟩ : ∃ t, j - k = t + 1 := ⟨j - k - 1, by omega⟩
      rw [ht, Nat.testBit_succ, Nat.testBit_succ, show (2 * m + 1) / 2 = m by omega, show 2 * m / 2 = m by omega, Bool.and_self]
theorem low_is (k m : Nat) : (2 ^ k * (2 * m + 1)).testBit k = true := by
  have e2 : 2 ^ k * (2 * m + 1) = 2 ^ k * (2 * m + 1) + 0 := rfl
  rw [e2, Nat.testBit_two_pow_mul_add _ (Nat.two_pow_pos k), if_neg (by omega)]
  simp
/-- .. counted. -/
theorem ctz_of (x : Nat) (h0 : x ≠ 0) (h : x < 18446744073709551616) : ∃ m, x = 2 ^ Lib.ctz 64 x * (2 * m + 1) ∧ Lib.ctz 64 x < 64 := by
  have e : Lib.ctz 64 x = Lib.ctzFrom 64 x := by simp [Lib.ctz, h0]
  rw [e]
  exact Lib.ctzFrom_spec 64 x (by omega) h
theorem addB_low {off x z : Nat} {vs : List Nat} (h0 : x ≠ 0) (h : x < 18446744073709551616) (hz : vs[off + Lib.ctz 64 x]? = some z) :
    addB off (x &&& (x - 1)) (vs.set (off + Lib.ctz 64 x) ((z + 1) % 4294967296)) = addB off x vs := by
  obtain ⟨m, hm, _⟩ := ctz_of x h0 h
  generalize Lib.ctz 64 x = k at *
  apply List.ext_getElem?
  intro i
  rw [addB_get, addB_get]
  by_cases hi : i = off + k
  · subst hi
    have hl : off + k < vs.length := (List.getElem?_eq_some_iff.1 hz).1
    rw [List.getElem?_set_self hl, hz, Option.map_some, Option.map_some, Nat.add_sub_cancel_left, hm, low_at, if_pos rfl, low_is]
    simp
  · rw [List.getElem?_set_ne (fun e => hi e.symm)]
    by_cases ho : off ≤ i
    · rw [hm, low_at, if_neg (by omega)]
    · simp [ho]
theorem low_lt {x : Nat} (h0 : x ≠ 0) : x &&& (x - 1) < x := Nat.lt_of_le_of_lt Nat.and_le_right (by omega)
theorem ctz_place {x m n s : Nat} (h0 : x ≠ 0) (h : x < 18446744073709551616) (hx : x * 2 ^ s ≤ m) (hm : m < 2 ^ n) : s + Lib.ctz 64 x < n := by
  obtain ⟨q, hq, _⟩ := ctz_of x h0 h
  generalize Lib.ctz 64 x = k at *
  have h1 : 2 ^ k ≤ x := by rw [hq]; exact Nat.le_mul_of_pos_right _ (by omega)
  have h2 : 2 ^ (s + k) < 2 ^ n := by
    rw [Nat.pow_add, Nat.mul_comm]
    exact Nat.lt_of_le_of_lt (Nat.le_trans (Nat.mul_le_mul_right _ h1) hx) hm
  exact (Nat.pow_lt_pow_iff_right (by omega)).1 h2
/-- The two halves of a number of 128 bits. -/
theorem addB_halves (off l h : Nat) (vs : List Nat) (hl : l < 18446744073709551616) : addB (off + 64) h (addB off l vs) = addB off (h * 18446744073709551616 + l) vs := by
  apply List.ext_getElem?
  intro i
  rw [addB_get, addB_get, addB_get, Nat.mul_comm, show (18446744073709551616 : Nat) = 2 ^ 64 from rfl]
  cases vs[i]? with
  | none => rfl
  | some v =>
    rw [Option.map_some, Option.map_some, Option.map_some, Nat.testBit_two_pow_mul_add _ hl]
    congr 1
    by_cases h1 : off ≤ i
    · by_cases h2 : i - off < 64
      · rw [if_pos h2, if_neg (by omega)]
      · have h3 : l.testBit (i - off) = false := Nat.testBit_lt_two_pow (Nat.lt_of_lt_of_le hl (Nat.pow_le_pow_right (n := 2) (by omega) (show 64 ≤ i - off by omega)))
        rw [if_neg h2, h3, show i - (off + 64) = i - off - 64 by omega]
        simp [show off + 64 ≤ i by omega, h1]
    · simp [h1, show ¬ off + 64 ≤ i by omega]
/-- The vector while bits are counted: the bins and how many samples there are stand for all samples xs, the bits for those in ys. -/
def vec2 (lo hi : Int) (es : List Int) (b : Nat) (xs ys : List Int) : List Nat := (List.range (lenN es b)).map fun j => (if j ≤ es.length + 1 then tot lo hi es b j xs else tot lo hi es b j ys) % 4294967296
theorem vec2_length (lo hi : Int) (es : List Int) (b : Nat) (xs ys : List Int) : (vec2 lo hi es b xs ys).length = lenN es b := by simp [vec2]
theorem vec2_all (lo hi : Int) (es : List Int) (b : Nat) (xs : List Int) : vec2 lo hi es b xs xs = vecT lo hi es b xs := by simp [vec2, vecT]
theorem vec2_get (lo hi : Int) (es : List Int) (b : Nat) (xs ys : List Int) {j : Nat} (hj : j < lenN es b) : (vec2 lo hi es b xs ys)[j]? = some ((if j ≤ es.length + 1 then tot lo hi es b j xs else tot lo hi es b j ys) % 4294967296) := by simp [vec2, hj]
theorem vec2_next (lo hi : Int) (es : List Int) (b : Nat) (xs ys : List Int) (x : Int) (hp : plN lo hi x < 2 ^ b) :
    addB (es.length + 2 + b) (plN lo hi x * plN lo hi x) (addB (es.length + 2) (plN lo hi x) (vec2 lo hi es b xs ys)) = vec2 lo hi es b xs (ys ++ [x]) := by
  apply List.ext_getElem?
  intro j
  rw [addB_get, addB_get]
  by_cases hj : j < lenN es b
  · rw [vec2_get lo hi es b xs ys hj, vec2_get lo hi es b xs (ys ++ [x]) hj, Option.map_some, Option.map_some]
    congr 1
    by_cases h1 : j ≤ es.length + 1
    · simp [h1, show ¬ es.length + 2 ≤ j by omega, show ¬ es.length + 2 + b ≤ j by omega]
    · rw [if_neg h1, if_neg h1, tot_append]
      have e : tot lo hi es b j [x] = inc lo hi es b j x := by simp [tot]
      rw [e]
      by_cases h2 : j < es.length + 2 + b
      · obtain ⟨k, rfl⟩ : ∃ k, j = es.length + 2 + k := ⟨j - (es.length + 2), by omega⟩
        rw [inc_bit lo hi es x (by omega), Nat.add_sub_cancel_left, Nat.testBit_eq_decide_div_mod_eq (x := plN lo hi x) (i := k)]
        have := bit_le (plN lo hi x) k
        unfold bit at *
        by_cases h3 : plN lo hi x / 2 ^ k % 2 = 1
        · simp [h3, show ¬ es.length + 2 + b ≤ es.length + 2 + k by omega]
        · simp [show plN lo hi x / 2 ^ k % 2 = 0 by omega, show ¬ es.length + 2 + b ≤ es.length + 2 + k by omega]
      · obtain ⟨k, rfl⟩ : ∃ k, j = es.length + 2 + b + k := ⟨j - (es.length + 2 + b), by omega⟩
        have h4 : (plN lo hi x).testBit (es.length + 2 + b + k - (es.length + 2)) = false := Nat.testBit_lt_two_pow (Nat.lt_of_lt_of_le hp (Nat.pow_le_pow_right (n := 2) (by omega) (by omega)))
        rw [inc_square, Nat.add_sub_cancel_left, h4, Nat.testBit_eq_decide_div_mod_eq (x := plN lo hi x * plN lo hi x) (i := k)]
        have := bit_le (plN lo hi x * plN lo hi x) k
        unfold bit at *
        by_cases h3 : plN lo hi x * plN lo hi x / 2 ^ k % 2 = 1
        · simp [h3]
        · simp [show plN lo hi x * plN lo hi x / 2 ^ k % 2 = 0 by omega]
  · rw [List.getElem?_eq_none (by rw [vec2_length]; omega), List.getElem?_eq_none (by rw [vec2_length]; omega)]
    rfl
/-- The counts, the first c of them written into a new vector. -/
def vec0 (lo hi : Int) (es : List Int) (b : Nat) (xs : List Int) (c : Nat) : List Nat := (List.range (lenN es b)).map fun j => if j < c then tot lo hi es b j xs % 4294967296 else 0
theorem vec0_length (lo hi : Int) (es : List Int) (b : Nat) (xs : List Int) (c : Nat) : (vec0 lo hi es b xs c).length = lenN es b := by simp [vec0]
theorem vec0_get (lo hi : Int) (es : List Int) (b : Nat) (xs : List Int) (c : Nat) {j : Nat} (hj : j < lenN es b) : (vec0 lo hi es b xs c)[j]? = some (if j < c then tot lo hi es b j xs % 4294967296 else 0) := by simp [vec0, hj]
theorem vec0_nil (lo hi : Int) (es : List Int) (b : Nat) (xs : List Int) : vec0 lo hi es b xs 0 = List.replicate (lenN es b) 0 := by
  apply List.ext_getElem?
  intro j
  by_cases hj : j < lenN es b
  · rw [vec0_get lo hi es b xs 0 hj]; simp [hj]
  · rw [List.getElem?_eq_none (by rw [vec0_length]; omega), List.getElem?_eq_none (by simp; omega)]
theorem vec0_next (lo hi : Int) (es : List Int) (b : Nat) (xs : List Int) (c : Nat) : vec0 lo hi es b xs (c + 1) = (vec0 lo hi es b xs c).set c (tot lo hi es b c xs % 4294967296) := by
  apply List.ext_getElem?
  intro j
  by_cases hj : j < lenN es b
  · by_cases h : j = c
    · subst h
      rw [vec0_get lo hi es b xs _ hj, List.getElem?_set_self (by rw [vec0_length]; exact hj), if_pos (by omega)]
    · rw [List.getElem?_set_ne (fun e => h e.symm), vec0_get lo hi es b xs _ hj, vec0_get lo hi es b xs _ hj]
      by_cases h2 : j < c
      · rw [if_pos h2, if_pos (by omega)]
      · rw [if_neg h2, if_neg (by omega)]
  · rw [List.getElem?_eq_none (by rw [vec0_length]; omega), List.getElem?_eq_none (by rw [List.length_set, vec0_length]; omega)]
theorem vec0_all (lo hi : Int) (es : List Int) (b : Nat) (xs : List Int) : vec0 lo hi es b xs (es.length + 2) = vec2 lo hi es b xs [] := by
  unfold vec0 vec2
  apply List.map_congr_left
  intro j _
  by_cases h : j < es.length + 2
  · rw [if_pos h, if_pos (by omega)]
  · rw [if_neg h, if_neg (by omega)]
    rfl
theorem tot_bin (lo hi : Int) (es : List Int) (b : Nat) {j : Nat} (hj : j ≤ es.length) : ∀ xs : List Int, tot lo hi es b j xs = xs.countP fun x => binX lo hi es x == j
  | [] => rfl
  | x :: r => by
    rw [tot, tot_bin lo hi es b hj r, List.countP_cons]
    unfold inc
    rw [if_pos hj]
    by_cases h : binX lo hi es x = j
    · simp [h]; omega
    · simp [h]
theorem cnt_tot (lo hi : Int) (es : List Int) (b : Nat) (xs : List Int) {j : Nat} (hj : j ≤ es.length) : (cntL lo hi es xs).getD j 0 = ((tot lo hi es b j xs : Nat) : Int) := by rw [cntL_get lo hi es xs hj, tot_bin lo hi es b hj]
theorem plN_lt (lo hi x : Int) (h : lo ≤ hi) : plN lo hi x < 2 ^ bitsN (hi - lo).toNat := by
  have h1 := clampZ_in (lo := lo) (hi := hi) (x := x) h
  have h2 : plN lo hi x ≤ (hi - lo).toNat := by unfold plN; omega
  refine Nat.lt_of_le_of_lt h2 ?_
  unfold bitsN
  exact Nat.lt_log2_self
theorem sq_lt {p b : Nat} (h : p < 2 ^ b) : p * p < 2 ^ (2 * b) := by
  rw [Nat.two_mul, Nat.pow_add]
  exact Nat.mul_lt_mul'' h h
end Pn
end Go.Proofs.YtegegfoogkpncaaDoor
