/-
  The document's numbers of 128 bits (offertoryref09): Mul, a row for each digit.
-/
import Derived.Test.YthaaajepolahfaaRefWide
namespace Go.Proofs.Ythaaajepolahfaa
open Go.RowKit Wd
set_option linter.unusedVariables false

namespace Wd
/-- What is carried over the lowest k digits of a product by one digit. -/
def mcar (p y k : Nat) : Nat := p * (y % 65536 ^ k) / 65536 ^ k
theorem mcar_zero (p y : Nat) : mcar p y 0 = 0 := by simp [mcar, Nat.mod_one]
theorem mcar_lt {p : Nat} (hp : p < 65536) (y k : Nat) : mcar p y k < 65536 := by
  have hD : 0 < 65536 ^ k := Nat.pow_pos (by omega)
  have h1 := Nat.mod_lt y hD
  unfold mcar
  refine Nat.div_lt_of_lt_mul ?_
  rw [Nat.mul_comm (65536 ^ k) 65536]
  exact Nat.lt_of_le_of_lt (Nat.mul_le_mul_right _ (Nat.le_of_lt hp)) (Nat.mul_lt_mul_of_pos_left h1 (by omega))
theorem mcar_sum (p y k : Nat) : p * digit y k + mcar p y k = p * (y % 65536 ^ (k + 1)) / 65536 ^ k := by
  have hD : 0 < 65536 ^ k := Nat.pow_pos (by omega)
  unfold mcar digit
  rw [Nat.pow_succ, Nat.mod_mul, Nat.mul_add]
  generalize 65536 ^ k = P at *
  rw [show p * (P * (y / P % 65536)) = P * (p * (y / P % 65536)) by rw [Nat.mul_left_comm], Nat.add_mul_div_left _ _ hD]
  omega
theorem mcar_step (p y k : Nat) : (p * digit y k + mcar p y k) / 65536 = mcar p y (k + 1) := by
  rw [mcar_sum, Nat.div_div_eq_div_mul, ← Nat.pow_succ]
  rfl
theorem mcar_digit (p y k : Nat) : (p * digit y k + mcar p y k) % 65536 = digit (p * y) k := by
  have hD : 0 < 65536 ^ k := Nat.pow_pos (by omega)
  rw [mcar_sum]
  unfold digit
  have hy := Nat.mod_add_div y (65536 ^ (k + 1))
  have e : p * y = p * (y % 65536 ^ (k + 1)) + 65536 ^ k * (65536 * (p * (y / 65536 ^ (k + 1)))) := by
    conv => lhs; rw [← hy]
    rw [Nat.mul_add, Nat.pow_succ, Nat.mul_assoc, Nat.mul_left_comm p, Nat.mul_left_comm p]
  rw [e, Nat.add_mul_div_left _ _ hD, Nat.add_mul_mod_self_left]
/-- A row so far. -/
def rowSt (p y i k : Nat) : List Nat := (List.range 8).map fun j => if i ≤ j ∧ j < i + k then digit (p * y) (j - i) else 0
theorem rowSt_length (p y i k : Nat) : (rowSt p y i k).length = 8 := by simp [rowSt]
theorem rowSt_zero (p y i : Nat) : rowSt p y i 0 = [0, 0, 0, 0, 0, 0, 0, 0] := by
  have : rowSt p y i 0 = (List.range 8).map fun _ => 0 := by
    unfold rowSt
    apply List.map_congr_left
    intro j _
    rw [if_neg (by omega)]
  rw [this]; rfl
theorem rowSt_step (p y : Nat) {i k : Nat} (h : i + k < 8) : (rowSt p y i k).set (i + k) (digit (p * y) k) = rowSt p y i (k + 1) := by
  apply List.ext_getElem?
  intro j
  rw [List.getElem?_set, rowSt_length]
  by_cases hj : j < 8
  · by_cases e : i + k = j
    · subst e
      rw [if_pos rfl, if_pos h]
      simp only [rowSt, List.getElem?_map, List.getElem?_range h, Option.map_some]
      rw [if_pos (by omega), show i + k - i = k by omega]
    · rw [if_neg e]
      simp only [rowSt, List.getElem?_map, List.getElem?_range hj, Option.map_some]
      by_cases h1 : i ≤ j ∧ j < i + k
      · rw [if_pos h1, if_pos (by omega)]
      · rw [if_neg h1, if_neg (by omega)]
  · rw [List.getElem?_eq_none (by rw [rowSt_length]; omega), List.getElem?_eq_none (by rw [rowSt_length]; omega), if_neg (by omega)]
theorem digit_up (z i j : Nat) : digit (z * 65536 ^ i) j = if i ≤ j then digit z (j - i) else 0 := by
  unfold digit
  by_cases h : i ≤ j
  · rw [if_pos h]
    obtain ⟨d, rfl⟩ : ∃ d, j = i + d := ⟨j - i, by omega⟩
    rw [Nat.pow_add, ← Nat.div_div_eq_div_mul, Nat.mul_div_cancel _ (Nat.pow_pos (by omega)), show i + d - i = d by omega]
  · rw [if_neg h]
    obtain ⟨d, rfl⟩ : ∃ d, i = j + 1 + d := ⟨i - j - 1, by omega⟩
    rw [show z * 65536 ^ (j + 1 + d) = 65536 * (z * 65536 ^ d) * 65536 ^ j by rw [Nat.pow_add, Nat.pow_succ]; simp only [Nat.mul_comm, Nat.mul_left_comm, Nat.mul_assoc], Nat.mul_div_cancel _ (Nat.pow_pos (by omega)), Nat.mul_mod_right]
theorem rowSt_all (p y : Nat) {i k : Nat} (h : i + k = 8) : rowSt p y i k = bigL (p * y * 65536 ^ i) := by
  unfold rowSt bigL
  apply List.map_congr_left
  intro j hj
  rw [digit_up]
  have := List.mem_range.1 hj
  by_cases h1 : i ≤ j
  · rw [if_pos ⟨h1, by omega⟩, if_pos h1]
  · rw [if_neg (by omega), if_neg h1]
theorem mul_step (x y i : Nat) : (x % 65536 ^ i) * y + digit x i * y * 65536 ^ i = (x % 65536 ^ (i + 1)) * y := by
  unfold digit
  rw [Nat.pow_succ, Nat.mod_mul, Nat.add_mul]
  congr 1
  simp only [Nat.mul_comm, Nat.mul_left_comm]
theorem mul_all (x y : Nat) : bigL (x % 65536 ^ 8 * y) = bigL (x * y) := by
  apply bigL_eq
  have : (65536 : Nat) ^ 8 = M := rfl
  rw [this, Nat.mod_mul_mod]
end Wd

/-- Five blocks: x, y, the answer, the sum so far, and the row. -/
structure R4 (w : World) (a b c d : List Nat) (wr : World) : Prop where
  a : Row wr w.heap.size 45 (nums .u32 a)
  b : Row wr (w.heap.size + 1) 45 (nums .u32 b)
  c : Row wr (w.heap.size + 2) 45 (nums .u32 c)
  d : Row wr (w.heap.size + 3) 45 (nums .u32 d)
  old : Old w wr
theorem R4.start (w : World) (a b : List Nat) : R4 w a b z8 z8 ((((w.alloc (.cells (nums .u32 a).toArray 45)).alloc (.cells (nums .u32 b).toArray 45)).alloc (.cells (nums .u32 z8).toArray 45)).alloc (.cells (nums .u32 z8).toArray 45)) := by
  have H := R3.start w a b
  have D := Row.new (((w.alloc (.cells (nums .u32 a).toArray 45)).alloc (.cells (nums .u32 b).toArray 45)).alloc (.cells (nums .u32 z8).toArray 45)) 45 (nums .u32 z8)
  rw [size_allocW] at D
  rw [size_allocW] at D
  rw [size_allocW] at D
  exact ⟨H.a.mono (Old.of_alloc _ _), H.b.mono (Old.of_alloc _ _), H.c.mono (Old.of_alloc _ _), D, H.old.alloc _⟩
theorem R4.put {w : World} {a b c d : List Nat} {wr : World} (h : R4 w a b c d wr) (d' : List Nat) {w' : World} (hw : w' = wr.setRow (w.heap.size + 3) (nums .u32 d').toArray) : R4 w a b c d' w' := by
  subst hw
  exact ⟨h.a.grown (grown_setRow _ _ _) (by omega), h.b.grown (grown_setRow _ _ _) (by omega), h.c.grown (grown_setRow _ _ _) (by omega), h.d.whole _, h.old.grown (grown_setRow _ _ _) (by omega)⟩
theorem R4.mono {w : World} {a b c d : List Nat} {wr w' : World} (h : R4 w a b c d wr) (o : Old wr w') : R4 w a b c d w' := ⟨h.a.mono o, h.b.mono o, h.c.mono o, h.d.mono o, h.old.trans o⟩
theorem R4.grown {w : World} {a b c d : List Nat} {wr w' : World} {g : Nat} (h : R4 w a b c d wr) (hg : wr.grownBy w' (some g)) (h1 : w.heap.size + 3 < g) : R4 w a b c d w' :=
  ⟨h.a.grown hg (by omega), h.b.grown hg (by omega), h.c.grown hg (by omega), h.d.grown hg (by omega), h.old.grown hg (by omega)⟩
theorem R4.end_ {w : World} {a b c d : List Nat} {wr : World} (h : R4 w a b c d wr) (c' : List Nat) {w' : World} (hw : w' = wr.setRow (w.heap.size + 2) (nums .u32 c').toArray) : Row w' (w.heap.size + 2) 45 (nums .u32 c') ∧ Old w w' := by
  subst hw
  exact ⟨h.c.whole _, h.old.grown (grown_setRow _ _ _) (by omega)⟩
end Go.Proofs.Ythaaajepolahfaa
