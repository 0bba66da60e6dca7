/-
  Samples as a vector of numbers modulo 2^32: the counts of the bins, how many samples, of how many each bit of their places is 1, and of their places' squares. Plain mathematics: nothing of the program.
-/
import Derived.Test.YthaaajepolahfaaBinN
namespace Go.Proofs.Ythaaajepolahfaa
set_option linter.unusedVariables false
namespace Pn

/-- A sample's place. -/
def plN (lo hi x : Int) : Nat := (clampZ lo hi x - lo).toNat
def bit (n k : Nat) : Nat := n / 2 ^ k % 2
theorem bit_le (n k : Nat) : bit n k ≤ 1 := by unfold bit; omega
/-- What a sample adds to the vector's number j (b: how many bits a place has). -/
def inc (lo hi : Int) (es : List Int) (b j : Nat) (x : Int) : Nat :=
  if j ≤ es.length then (if binX lo hi es x = j then 1 else 0) else if j = es.length + 1 then 1 else if j < es.length + 2 + b then bit (plN lo hi x) (j - (es.length + 2)) else bit (plN lo hi x * plN lo hi x) (j - (es.length + 2 + b))
theorem inc_le (lo hi : Int) (es : List Int) (b j : Nat) (x : Int) : inc lo hi es b j x ≤ 1 := by
  unfold inc
  split
  · split <;> omega
  · split
    · omega
    · split <;> exact bit_le _ _
def tot (lo hi : Int) (es : List Int) (b j : Nat) : List Int → Nat
  | [] => 0
  | x :: r => inc lo hi es b j x + tot lo hi es b j r
theorem tot_append (lo hi : Int) (es : List Int) (b j : Nat) : ∀ xs ys : List Int, tot lo hi es b j (xs ++ ys) = tot lo hi es b j xs + tot lo hi es b j ys
  | [], ys => by simp [tot]
  | x :: r, ys => by rw [List.cons_append, tot, tot, tot_append lo hi es b j r ys]; omega
theorem tot_le (lo hi : Int) (es : List Int) (b j : Nat) : ∀ xs : List Int, tot lo hi es b j xs ≤ xs.length
  | [] => by simp [tot]
  | x :: r => by have := tot_le lo hi es b j r; have := inc_le lo hi es b j x; rw [tot, List.length_cons]; omega
theorem tot_reverse (lo hi : Int) (es : List Int) (b j : Nat) : ∀ xs : List Int, tot lo hi es b j xs.reverse = tot lo hi es b j xs
  | [] => by simp
  | x :: r => by rw [List.reverse_cons, tot_append, tot_reverse lo hi es b j r]; simp [tot]; omega
/-- How many numbers a vector has. -/
def lenN (es : List Int) (b : Nat) : Nat := es.length + 2 + 3 * b
/-- The vector, while the sample x is added: the first c numbers have it already. -/
def stL (lo hi : Int) (es : List Int) (b : Nat) (xs : List Int) (x : Int) (c : Nat) : List Nat := (List.range (lenN es b)).map fun j => (tot lo hi es b j xs + if j < c then inc lo hi es b j x else 0) % 4294967296
def vecT (lo hi : Int) (es : List Int) (b : Nat) (xs : List Int) : List Nat := (List.range (lenN es b)).map fun j => tot lo hi es b j xs % 4294967296
theorem stL_length (lo hi : Int) (es : List Int) (b : Nat) (xs : List Int) (x : Int) (c : Nat) : (stL lo hi es b xs x c).length = lenN es b := by simp [stL]
theorem vecT_length (lo hi : Int) (es : List Int) (b : Nat) (xs : List Int) : (vecT lo hi es b xs).length = lenN es b := by simp [vecT]
theorem stL_get (lo hi : Int) (es : List Int) (b : Nat) (xs : List Int) (x : Int) (c : Nat) {j : Nat} (hj : j < lenN es b) : (stL lo hi es b xs x c)[j]? = some ((tot lo hi es b j xs + if j < c then inc lo hi es b j x else 0) % 4294967296) := by simp [stL, hj]
theorem vecT_get (lo hi : Int) (es : List Int) (b : Nat) (xs : List Int) {j : Nat} (hj : j < lenN es b) : (vecT lo hi es b xs)[j]? = some (tot lo hi es b j xs % 4294967296) := by simp [vecT, hj]
theorem stL_zero (lo hi : Int) (es : List Int) (b : Nat) (xs : List Int) (x : Int) : stL lo hi es b xs x 0 = vecT lo hi es b xs := by simp [stL, vecT]
theorem stL_all (lo hi : Int) (es : List Int) (b : Nat) (xs : List Int) (x : Int) : stL lo hi es b xs x (lenN es b) = vecT lo hi es b (xs ++ [x]) := by
  unfold stL vecT
  apply List.map_congr_left
  intro j hj
  rw [if_pos (List.mem_range.1 hj), tot_append]
  simp [tot]
theorem vecT_nil (lo hi : Int) (es : List Int) (b : Nat) : vecT lo hi es b [] = List.replicate (lenN es b) 0 := by
  apply List.ext_getElem?
  intro j
  by_cases hj : j < lenN es b
  · rw [vecT_get lo hi es b [] hj]; simp [tot, hj]
  · rw [List.getElem?_eq_none (by rw [vecT_length]; omega), List.getElem?_eq_none (by simp; omega)]
theorem vecT_lt (lo hi : Int) (es : List Int) (b : Nat) (xs : List Int) : ∀ v ∈ vecT lo hi es b xs, v < 4294967296 := by
  intro v hv
  obtain ⟨j, _, rfl⟩ := List.mem_map.1 hv
  exact Nat.mod_lt _ (by omega)
/-- One number more. -/
theorem stL_next (lo hi : Int) (es : List Int) (b : Nat) (xs : List Int) (x : Int) {c z : Nat} (hc : c < lenN es b) (hz : (stL lo hi es b xs x c)[c]? = some z) : stL lo hi es b xs x (c + 1) = (stL lo hi es b xs x c).set c ((z + inc lo hi es b c x) % 4294967296) := by
  rw [stL_get lo hi es b xs x c hc, if_neg (Nat.lt_irrefl c)] at hz
  have hz' : z = tot lo hi es b c xs % 4294967296 := by simpa using hz.symm
  apply List.ext_getElem?
  intro j
  by_cases hj : j < lenN es b
  · by_cases hjc : j = c
    · subst hjc
      rw [stL_get lo hi es b xs x _ hj, List.getElem?_set_self (by rw [stL_length]; exact hj), if_pos (by omega), hz']
      congr 1
      omega
    · rw [List.getElem?_set_ne (fun h => hjc h.symm), stL_get lo hi es b xs x _ hj, stL_get lo hi es b xs x _ hj]
      by_cases h : j < c
      · rw [if_pos h, if_pos (by omega)]
      · rw [if_neg h, if_neg (by omega)]
  · rw [List.getElem?_eq_none (by rw [stL_length]; omega), List.getElem?_eq_none (by rw [List.length_set, stL_length]; omega)]
/-- Its bin. -/
theorem stL_bin (lo hi : Int) (es : List Int) (b : Nat) (xs : List Int) (x : Int) {z : Nat} (hz : (stL lo hi es b xs x 0)[binX lo hi es x]? = some z) : stL lo hi es b xs x (es.length + 1) = (stL lo hi es b xs x 0).set (binX lo hi es x) ((z + 1) % 4294967296) := by
  have hp := binX_le lo hi es x
  have hpl : binX lo hi es x < lenN es b := by unfold lenN; omega
  rw [stL_get lo hi es b xs x 0 hpl, if_neg (Nat.not_lt_zero _)] at hz
  have hz' : z = tot lo hi es b (binX lo hi es x) xs % 4294967296 := by simpa using hz.symm
  apply List.ext_getElem?
  intro j
  by_cases hj : j < lenN es b
  · by_cases hjc : j = binX lo hi es x
    · subst hjc
      rw [stL_get lo hi es b xs x _ hj, List.getElem?_set_self (by rw [stL_length]; exact hj), if_pos (by omega), hz']
      have : inc lo hi es b (binX lo hi es x) x = 1 := by unfold inc; rw [if_pos hp, if_pos rfl]
      rw [this]
      congr 1
      omega
    · rw [List.getElem?_set_ne (fun h => hjc h.symm), stL_get lo hi es b xs x _ hj, stL_get lo hi es b xs x _ hj, if_neg (Nat.not_lt_zero _)]
      by_cases h : j < es.length + 1
      · rw [if_pos h]
        have : inc lo hi es b j x = 0 := by unfold inc; rw [if_pos (by omega), if_neg (fun e => hjc e.symm)]
        rw [this]
      · rw [if_neg h]
  · rw [List.getElem?_eq_none (by rw [stL_length]; omega), List.getElem?_eq_none (by rw [List.length_set, stL_length]; omega)]
theorem inc_count (lo hi : Int) (es : List Int) (b : Nat) (x : Int) : inc lo hi es b (es.length + 1) x = 1 := by unfold inc; rw [if_neg (by omega), if_pos rfl]
theorem inc_bit (lo hi : Int) (es : List Int) {b k : Nat} (x : Int) (hk : k < b) : inc lo hi es b (es.length + 2 + k) x = bit (plN lo hi x) k := by
  unfold inc
  rw [if_neg (by omega), if_neg (by omega), if_pos (by omega), show es.length + 2 + k - (es.length + 2) = k by omega]
theorem inc_square (lo hi : Int) (es : List Int) {b k : Nat} (x : Int) : inc lo hi es b (es.length + 2 + b + k) x = bit (plN lo hi x * plN lo hi x) k := by
  unfold inc
  rw [if_neg (by omega), if_neg (by omega), if_neg (by omega), show es.length + 2 + b + k - (es.length + 2 + b) = k by omega]
/-- Two vectors' sums so far: the first c numbers are added already. -/
def addTo (lo hi : Int) (es : List Int) (b : Nat) (xs ys : List Int) (c : Nat) : List Nat := (List.range (lenN es b)).map fun j => (tot lo hi es b j xs + if j < c then tot lo hi es b j ys else 0) % 4294967296
theorem addTo_length (lo hi : Int) (es : List Int) (b : Nat) (xs ys : List Int) (c : Nat) : (addTo lo hi es b xs ys c).length = lenN es b := by simp [addTo]
theorem addTo_zero (lo hi : Int) (es : List Int) (b : Nat) (xs ys : List Int) : addTo lo hi es b xs ys 0 = vecT lo hi es b xs := by simp [addTo, vecT]
theorem addTo_all (lo hi : Int) (es : List Int) (b : Nat) (xs ys : List Int) : addTo lo hi es b xs ys (lenN es b) = vecT lo hi es b (xs ++ ys) := by
  unfold addTo vecT
  apply List.map_congr_left
  intro j hj
  rw [if_pos (List.mem_range.1 hj), tot_append]
theorem addTo_get (lo hi : Int) (es : List Int) (b : Nat) (xs ys : List Int) (c : Nat) {j : Nat} (hj : j < lenN es b) : (addTo lo hi es b xs ys c)[j]? = some ((tot lo hi es b j xs + if j < c then tot lo hi es b j ys else 0) % 4294967296) := by simp [addTo, hj]
theorem addTo_next (lo hi : Int) (es : List Int) (b : Nat) (xs ys : List Int) {c z u : Nat} (hc : c < lenN es b) (hz : (addTo lo hi es b xs ys c)[c]? = some z) (hu : (vecT lo hi es b ys)[c]? = some u) : addTo lo hi es b xs ys (c + 1) = (addTo lo hi es b xs ys c).set c ((z + u) % 4294967296) := by
  rw [addTo_get lo hi es b xs ys c hc, if_neg (Nat.lt_irrefl c)] at hz
  rw [vecT_get lo hi es b ys hc] at hu
  have hz' : z = tot lo hi es b c xs % 4294967296 := by simpa using hz.symm
  have hu' : u = tot lo hi es b c ys % 4294967296 := by simpa using hu.symm
  apply List.ext_getElem?
  intro j
  by_cases hj : j < lenN es b
  · by_cases hjc : j = c
    · subst hjc
      rw [addTo_get lo hi es b xs ys _ hj, List.getElem?_set_self (by rw [addTo_length]; exact hj), if_pos (by omega), hz', hu']
      congr 1
      omega
    · rw [List.getElem?_set_ne (fun h => hjc h.symm), addTo_get lo hi es b xs ys _ hj, addTo_get lo hi es b xs ys _ hj]
      by_cases h : j < c
      · rw [if_pos h, if_pos (by omega)]
      · rw [if_neg h, if_neg (by omega)]
  · rw [List.getElem?_eq_none (by rw [addTo_length]; omega), List.getElem?_eq_none (by rw [List.length_set, addTo_length]; omega)]
theorem vecT_reverse (lo hi : Int) (es : List Int) (b : Nat) (xs : List Int) : vecT lo hi es b xs.reverse = vecT lo hi es b xs := by
  unfold vecT
  apply List.map_congr_left
  intro j _
  rw [tot_reverse]
theorem inc_clamp {lo hi : Int} (es : List Int) (b j : Nat) {x y : Int} (h : clampZ lo hi x = clampZ lo hi y) : inc lo hi es b j x = inc lo hi es b j y := by
  unfold inc binX plN
  rw [h]
/-- The first sample, turned to the end, for another that is clamped to the same. -/
theorem vecT_far {lo hi : Int} (es : List Int) (b : Nat) {xs : List Int} {y : Int} (hp : 0 < xs.length) (h : clampZ lo hi (xs.getD 0 0) = clampZ lo hi y) : vecT lo hi es b (xs.reverse.set (xs.length - 1) y) = vecT lo hi es b xs := by
  match xs, hp with
  | x :: r, _ =>
    have e : (x :: r).reverse.set ((x :: r).length - 1) y = r.reverse ++ [y] := by
      rw [List.reverse_cons, List.length_cons, Nat.add_sub_cancel, List.set_append_right _ _ (by simp)]
      simp
    rw [e]
    unfold vecT
    apply List.map_congr_left
    intro j _
    rw [tot_append, tot_reverse]
    have h' : clampZ lo hi x = clampZ lo hi y := by simpa using h
    simp only [tot, inc_clamp es b j h']
    congr 1
    omega
/-- The first m numbers together. -/
def sumTo (lo hi : Int) (es : List Int) (b : Nat) (xs : List Int) : Nat → Nat
  | 0 => 0
  | m + 1 => sumTo lo hi es b xs m + tot lo hi es b m xs
def incTo (lo hi : Int) (es : List Int) (b : Nat) (x : Int) : Nat → Nat
  | 0 => 0
  | m + 1 => incTo lo hi es b x m + inc lo hi es b m x
theorem incTo_eq (lo hi : Int) (es : List Int) (b : Nat) (x : Int) : ∀ m, m ≤ es.length + 1 → incTo lo hi es b x m = if binX lo hi es x < m then 1 else 0
  | 0, _ => by simp [incTo]
  | m + 1, h => by
    have e : inc lo hi es b m x = if binX lo hi es x = m then 1 else 0 := by unfold inc; rw [if_pos (by omega)]
    rw [incTo, incTo_eq lo hi es b x m (by omega), e]
    by_cases h1 : binX lo hi es x = m
    · rw [if_neg (by omega), if_pos h1, if_pos (by omega)]
    · rw [if_neg h1]
      by_cases h2 : binX lo hi es x < m
      · rw [if_pos h2, if_pos (by omega)]
      · rw [if_neg h2, if_neg (by omega)]
theorem sumTo_cons (lo hi : Int) (es : List Int) (b : Nat) (x : Int) (r : List Int) : ∀ m, sumTo lo hi es b (x :: r) m = incTo lo hi es b x m + sumTo lo hi es b r m
  | 0 => by simp [sumTo, incTo]
  | m + 1 => by rw [sumTo, sumTo, incTo, sumTo_cons lo hi es b x r m, tot]; omega
theorem sumTo_nil (lo hi : Int) (es : List Int) (b : Nat) : ∀ m, sumTo lo hi es b [] m = 0
  | 0 => rfl
  | m + 1 => by rw [sumTo, sumTo_nil lo hi es b m]; rfl
theorem sumTo_le (lo hi : Int) (es : List Int) (b : Nat) {m : Nat} (h : m ≤ es.length + 1) : ∀ xs : List Int, sumTo lo hi es b xs m ≤ xs.length
  | [] => by rw [sumTo_nil]; simp
  | x :: r => by
    have := sumTo_le lo hi es b h r
    rw [sumTo_cons, incTo_eq lo hi es b x m h, List.length_cons]
    split <;> omega
theorem sumTo_all (lo hi : Int) (es : List Int) (b : Nat) : ∀ xs : List Int, sumTo lo hi es b xs (es.length + 1) = xs.length
  | [] => by rw [sumTo_nil]; simp
  | x :: r => by
    have := sumTo_all lo hi es b r
    have hb := binX_le lo hi es x
    rw [sumTo_cons, incTo_eq lo hi es b x _ (Nat.le_refl _), List.length_cons, this, if_pos (by omega)]
    omega
theorem tot_count (lo hi : Int) (es : List Int) (b : Nat) : ∀ xs : List Int, tot lo hi es b (es.length + 1) xs = xs.length
  | [] => rfl
  | x :: r => by rw [tot, inc_count, tot_count lo hi es b r, List.length_cons]; omega
/-- A bit out of the digit of 16 that holds it. -/
theorem bit_digit (n k : Nat) : n / 65536 ^ (k / 16) % 65536 / 2 ^ (k % 16) % 2 = bit n k := by
  unfold bit
  have e1 : (65536 : Nat) ^ (k / 16) * 2 ^ (k % 16) = 2 ^ k := by
    rw [show (65536 : Nat) = 2 ^ 16 from rfl, ← Nat.pow_mul, ← Nat.pow_add]
    congr 1
    omega
  rw [← e1, ← Nat.div_div_eq_div_mul]
  generalize n / 65536 ^ (k / 16) = m
  have hk : k % 16 < 16 := Nat.mod_lt _ (by omega)
  have e2 : (65536 : Nat) = 2 ^ (k % 16) * 2 ^ (16 - k % 16) := by rw [← Nat.pow_add, show k % 16 + (16 - k % 16) = 16 by omega]
  rw [e2, Nat.mod_mul_right_div_self, Nat.mod_mod_of_dvd _ (Nat.dvd_trans (show 2 ∣ 2 ^ 1 by simp) (Nat.pow_dvd_pow 2 (by omega)))]
end Pn
end Go.Proofs.Ythaaajepolahfaa
