/-
  Numbers of 128 bits: as two numbers of 64 bits, and as eight digits of 16, the lowest first. Plain mathematics: nothing of the program.
-/
import Derived.Test.YthaaajepolahfaaMem
namespace Go.Proofs.Ythaaajepolahfaa
set_option linter.unusedVariables false
namespace Wd

def M : Nat := 340282366920938463463374607431768211456
def digit (x j : Nat) : Nat := x / 65536 ^ j % 65536
theorem digit_lt (x j : Nat) : digit x j < 65536 := Nat.mod_lt _ (by omega)
/-- Its eight lowest digits. -/
def bigL (x : Nat) : List Nat := (List.range 8).map (digit x)
theorem bigL_length (x : Nat) : (bigL x).length = 8 := by simp [bigL]
theorem bigL_get (x : Nat) {j : Nat} (hj : j < 8) : (bigL x)[j]? = some (digit x j) := by simp [bigL, hj]
theorem bigL_lt (x : Nat) : ∀ y ∈ bigL x, y < 65536 := by
  intro y hy
  obtain ⟨j, _, rfl⟩ := List.mem_map.1 hy
  exact digit_lt _ _
/-- The number of some digits. -/
def valB : List Nat → Nat
  | [] => 0
  | d :: r => d + 65536 * valB r
theorem valB_lt : ∀ {l : List Nat}, (∀ d ∈ l, d < 65536) → valB l < 65536 ^ l.length
  | [], _ => by simp [valB]
  | d :: r, h => by
    have ih := valB_lt (l := r) fun x hx => h x (by simp [hx])
    have hd := h d (by simp)
    rw [valB, List.length_cons, Nat.pow_succ]
    omega
theorem digit_valB : ∀ {l : List Nat}, (∀ d ∈ l, d < 65536) → ∀ j, digit (valB l) j = l.getD j 0
  | [], _, j => by simp [valB, digit]
  | d :: r, h, 0 => by
    have hd := h d (by simp)
    simp [valB, digit]
    omega
  | d :: r, h, j + 1 => by
    have ih := digit_valB (l := r) (fun x hx => h x (by simp [hx])) j
    have hd := h d (by simp)
    have e : (d + 65536 * valB r) / 65536 ^ (j + 1) = valB r / 65536 ^ j := by
      rw [Nat.pow_succ', ← Nat.div_div_eq_div_mul]
      congr 1
      omega
    unfold digit at *
    rw [valB, e, ih]
    simp
/-- Eight digits are those of their number. -/
theorem bigL_valB {l : List Nat} (hl : l.length = 8) (h : ∀ d ∈ l, d < 65536) : bigL (valB l) = l := by
  apply List.ext_getElem?
  intro j
  by_cases hj : j < 8
  · rw [bigL_get _ hj, digit_valB h, List.getElem?_eq_getElem (by omega), List.getD_eq_getElem?_getD, List.getElem?_eq_getElem (by omega)]
    rfl
  · rw [List.getElem?_eq_none (by rw [bigL_length]; omega), List.getElem?_eq_none (by omega)]
theorem valB_digits : ∀ (n x : Nat), valB ((List.range n).map (digit x)) = x % 65536 ^ n
  | 0, x => by simp [valB, Nat.mod_one]
  | n + 1, x => by
    have e : (List.range (n + 1)).map (digit x) = x % 65536 :: (List.range n).map (digit (x / 65536)) := by
      rw [List.range_succ_eq_map, List.map_cons, List.map_map]
      congr 1
      · simp [digit]
      · apply List.map_congr_left
        intro j _
        simp only [Function.comp, digit, Nat.succ_eq_add_one]
        rw [Nat.pow_succ', ← Nat.div_div_eq_div_mul]
    rw [e, valB, valB_digits n (x / 65536), Nat.pow_succ', Nat.mod_mul]
theorem valB_bigL (x : Nat) : valB (bigL x) = x % M := valB_digits 8 x
theorem bigL_mod (x : Nat) : bigL (x % M) = bigL x := by rw [← valB_bigL, bigL_valB (bigL_length x) (bigL_lt x)]
theorem bigL_eq {x y : Nat} (h : x % M = y % M) : bigL x = bigL y := by rw [← bigL_mod x, h, bigL_mod]

/-- What is carried over the lowest i digits of a sum. -/
def car (x y i : Nat) : Nat := (x % 65536 ^ i + y % 65536 ^ i) / 65536 ^ i
theorem car_zero (x y : Nat) : car x y 0 = 0 := by simp [car, Nat.mod_one]
theorem car_le (x y i : Nat) : car x y i ≤ 1 := by
  have hp : 0 < 65536 ^ i := Nat.pow_pos (by omega)
  have h1 := Nat.mod_lt x hp
  have h2 := Nat.mod_lt y hp
  unfold car
  have : (x % 65536 ^ i + y % 65536 ^ i) / 65536 ^ i < 2 := Nat.div_lt_of_lt_mul (by omega)
  omega
theorem car_step (x y i : Nat) : (digit x i + digit y i + car x y i) / 65536 = car x y (i + 1) := by
  have hp : 0 < 65536 ^ i := Nat.pow_pos (by omega)
  unfold car digit
  rw [Nat.pow_succ, Nat.mod_mul, Nat.mod_mul, ← Nat.div_div_eq_div_mul]
  generalize 65536 ^ i = P at *
  congr 1
  rw [show x % P + P * (x / P % 65536) + (y % P + P * (y / P % 65536)) = (x % P + y % P) + P * (x / P % 65536 + y / P % 65536) by rw [Nat.mul_add]; omega, Nat.add_mul_div_left _ _ hp]
  omega
theorem car_digit (x y i : Nat) : (digit x i + digit y i + car x y i) % 65536 = digit (x + y) i := by
  have hp : 0 < 65536 ^ i := Nat.pow_pos (by omega)
  unfold car digit
  generalize 65536 ^ i = P at *
  have hx := Nat.mod_add_div x P
  have hy := Nat.mod_add_div y P
  have e : (x + y) / P = (x % P + y % P) / P + (x / P + y / P) := by
    conv => lhs; rw [← hx, ← hy]
    rw [show x % P + P * (x / P) + (y % P + P * (y / P)) = (x % P + y % P) + P * (x / P + y / P) by rw [Nat.mul_add]; omega, Nat.add_mul_div_left _ _ hp]
  rw [e]
  omega
/-- The digits so far of a sum, the others of x. -/
def addSt (x y i : Nat) : List Nat := (List.range 8).map fun j => if j < i then digit (x + y) j else digit x j
theorem addSt_length (x y i : Nat) : (addSt x y i).length = 8 := by simp [addSt]
theorem addSt_zero (x y : Nat) : addSt x y 0 = bigL x := by
  unfold addSt bigL
  apply List.map_congr_left
  intro j _
  rw [if_neg (by omega)]
theorem addSt_all (x y : Nat) : addSt x y 8 = bigL (x + y) := by
  unfold addSt bigL
  apply List.map_congr_left
  intro j hj
  rw [if_pos (List.mem_range.1 hj)]
theorem addSt_get (x y : Nat) {i : Nat} (hi : i < 8) : (addSt x y i)[i]? = some (digit x i) := by simp [addSt, hi]
theorem addSt_step (x y : Nat) {i : Nat} (hi : i < 8) : (addSt x y i).set i (digit (x + y) i) = addSt x y (i + 1) := by
  apply List.ext_getElem?
  intro j
  rw [List.getElem?_set, addSt_length]
  by_cases hj : j < 8
  · by_cases e : i = j
    · subst e
      simp [addSt, hi]
    · rw [if_neg e]
      simp only [addSt, List.getElem?_map, List.getElem?_range hj, Option.map_some]
      by_cases h1 : j < i
      · rw [if_pos h1, if_pos (by omega)]
      · rw [if_neg h1, if_neg (by omega)]
  · rw [List.getElem?_eq_none (by rw [addSt_length]; omega), List.getElem?_eq_none (by rw [addSt_length]; omega), if_neg (by omega)]

/-- Each digit turned. -/
def turn (x : Nat) : Nat := M - 1 - x % M
theorem valB_turn : ∀ (n x : Nat), valB ((List.range n).map fun j => 65535 - digit x j) + x % 65536 ^ n + 1 = 65536 ^ n
  | 0, x => by simp [valB, Nat.mod_one]
  | n + 1, x => by
    have e : ((List.range (n + 1)).map fun j => 65535 - digit x j) = (65535 - x % 65536) :: (List.range n).map fun j => 65535 - digit (x / 65536) j := by
      rw [List.range_succ_eq_map, List.map_cons, List.map_map]
      congr 1
      · simp [digit]
      · apply List.map_congr_left
        intro j _
        simp only [Function.comp, digit, Nat.succ_eq_add_one]
        rw [Nat.pow_succ', ← Nat.div_div_eq_div_mul]
    have ih := valB_turn n (x / 65536)
    rw [e, valB, Nat.pow_succ', Nat.mod_mul]
    have := Nat.mod_lt x (show 0 < 65536 by omega)
    omega
theorem turn_digits (x : Nat) : ((List.range 8).map fun j => 65535 - digit x j) = bigL (turn x) := by
  have h := valB_turn 8 x
  have e : valB ((List.range 8).map fun j => 65535 - digit x j) = turn x := by
    unfold turn
    have hM : 65536 ^ 8 = M := rfl
    rw [hM] at h
    omega
  rw [← e, bigL_valB (by simp)]
  intro d hd
  obtain ⟨j, _, rfl⟩ := List.mem_map.1 hd
  omega
theorem turn_one (x : Nat) (hx : x ≤ M) : bigL (turn x + 1) = bigL (M - x) := by
  apply bigL_eq
  unfold turn
  have : 0 < M := by unfold M; omega
  by_cases h : x = M
  · subst h
    rw [Nat.mod_self, Nat.sub_zero, Nat.sub_add_cancel (by omega), Nat.sub_self, Nat.mod_self, Nat.zero_mod]
  · rw [Nat.mod_eq_of_lt (show x < M by omega), show M - 1 - x + 1 = M - x by omega]
def turnSt (x i : Nat) : List Nat := (List.range 8).map fun j => if j < i then 65535 - digit x j else digit x j
theorem turnSt_length (x i : Nat) : (turnSt x i).length = 8 := by simp [turnSt]
theorem turnSt_zero (x : Nat) : turnSt x 0 = bigL x := by
  unfold turnSt bigL
  apply List.map_congr_left
  intro j _
  rw [if_neg (by omega)]
theorem turnSt_all (x : Nat) : turnSt x 8 = bigL (turn x) := by
  rw [← turn_digits]
  unfold turnSt
  apply List.map_congr_left
  intro j hj
  rw [if_pos (List.mem_range.1 hj)]
theorem turnSt_get (x : Nat) {i : Nat} (hi : i < 8) : (turnSt x i)[i]? = some (digit x i) := by simp [turnSt, hi]
theorem turnSt_step (x : Nat) {i : Nat} (hi : i < 8) : (turnSt x i).set i (65535 - digit x i) = turnSt x (i + 1) := by
  apply List.ext_getElem?
  intro j
  rw [List.getElem?_set, turnSt_length]
  by_cases hj : j < 8
  · by_cases e : i = j
    · subst e
      simp [turnSt, hi]
    · rw [if_neg e]
      simp only [turnSt, List.getElem?_map, List.getElem?_range hj, Option.map_some]
      by_cases h1 : j < i
      · rw [if_pos h1, if_pos (by omega)]
      · rw [if_neg h1, if_neg (by omega)]
  · rw [List.getElem?_eq_none (by rw [turnSt_length]; omega), List.getElem?_eq_none (by rw [turnSt_length]; omega), if_neg (by omega)]

/-- A number of 128 bits as a struct of two. -/
def hi (x : Nat) : Nat := x / 18446744073709551616 % 18446744073709551616
def lo (x : Nat) : Nat := x % 18446744073709551616
theorem hi_lt (x : Nat) : hi x < 18446744073709551616 := Nat.mod_lt _ (by omega)
theorem lo_lt (x : Nat) : lo x < 18446744073709551616 := Nat.mod_lt _ (by omega)
theorem hi_lo (x : Nat) : hi x * 18446744073709551616 + lo x = x % M := by unfold hi lo M; omega
theorem of_parts {h l : Nat} (hh : h < 18446744073709551616) (hl : l < 18446744073709551616) : hi (h * 18446744073709551616 + l) = h ∧ lo (h * 18446744073709551616 + l) = l := by
  unfold hi lo; omega
theorem hl_mod (x : Nat) : hi (x % M) = hi x ∧ lo (x % M) = lo x := by unfold hi lo M; omega
theorem hl_eq {x y : Nat} (h : x % M = y % M) : hi x = hi y ∧ lo x = lo y := by
  have h1 := hl_mod x
  have h2 := hl_mod y
  rw [h] at h1
  exact ⟨h1.1.symm.trans h2.1, h1.2.symm.trans h2.2⟩
theorem hl_inj {x y : Nat} (h1 : hi x = hi y) (h2 : lo x = lo y) : x % M = y % M := by rw [← hi_lo, ← hi_lo, h1, h2]
theorem lo_digit (x : Nat) {j : Nat} (hj : j < 4) : lo x / 65536 ^ j % 65536 = digit x j := by
  unfold lo digit
  match j, hj with
  | 0, _ => omega
  | 1, _ => omega
  | 2, _ => omega
  | 3, _ => omega
theorem hi_digit (x : Nat) {j : Nat} (hj : j < 4) : hi x / 65536 ^ j % 65536 = digit x (4 + j) := by
  unfold hi digit
  match j, hj with
  | 0, _ => omega
  | 1, _ => omega
  | 2, _ => omega
  | 3, _ => omega
/-- Both halves by digits, from the highest down. -/
def loTop (x i : Nat) : Nat := lo x / 65536 ^ i
def hiTop (x i : Nat) : Nat := hi x / 65536 ^ i
theorem loTop_step (x : Nat) {i : Nat} (hi' : i < 4) : loTop x (i + 1) * 65536 + digit x i = loTop x i := by
  rw [← lo_digit x hi']
  unfold loTop
  rw [Nat.pow_succ, ← Nat.div_div_eq_div_mul]
  omega
theorem hiTop_step (x : Nat) {i : Nat} (hi' : i < 4) : hiTop x (i + 1) * 65536 + digit x (4 + i) = hiTop x i := by
  rw [← hi_digit x hi']
  unfold hiTop
  rw [Nat.pow_succ, ← Nat.div_div_eq_div_mul]
  omega
end Wd
end Go.Proofs.Ythaaajepolahfaa
