/-
  A vector taken some times over: its numbers, and what it says. Plain mathematics: nothing of the program.
-/
import Derived.Test.YthaaajepolahfaaStatsN
namespace Go.Proofs.Ythaaajepolahfaa
set_option linter.unusedVariables false
namespace Pn

/-- While a vector is taken so many times: the first c numbers are already. -/
def mulTo (t : Nat) (lo hi : Int) (es : List Int) (b : Nat) (xs : List Int) (c : Nat) : List Nat := (List.range (lenN es b)).map fun j => if j < c then t * tot lo hi es b j xs else tot lo hi es b j xs
theorem mulTo_length (t : Nat) (lo hi : Int) (es : List Int) (b : Nat) (xs : List Int) (c : Nat) : (mulTo t lo hi es b xs c).length = lenN es b := by simp [mulTo]
theorem mulTo_zero (t : Nat) (lo hi : Int) (es : List Int) (b : Nat) (xs : List Int) (h : xs.length < 4294967296) : mulTo t lo hi es b xs 0 = vecT lo hi es b xs := by
  unfold mulTo vecT
  apply List.map_congr_left
  intro j _
  have := tot_le lo hi es b j xs
  rw [if_neg (Nat.not_lt_zero _), Nat.mod_eq_of_lt (by omega)]
theorem mulTo_all (t : Nat) (lo hi : Int) (es : List Int) (b : Nat) (xs : List Int) : mulTo t lo hi es b xs (lenN es b) = vecM t lo hi es b xs := by
  unfold mulTo vecM
  apply List.map_congr_left
  intro j hj
  rw [if_pos (List.mem_range.1 hj)]
theorem mulTo_get (t : Nat) (lo hi : Int) (es : List Int) (b : Nat) (xs : List Int) {c : Nat} (hc : c < lenN es b) : (mulTo t lo hi es b xs c)[c]? = some (tot lo hi es b c xs) := by simp [mulTo, hc]
theorem mulTo_next (t : Nat) (lo hi : Int) (es : List Int) (b : Nat) (xs : List Int) {c : Nat} (hc : c < lenN es b) : mulTo t lo hi es b xs (c + 1) = (mulTo t lo hi es b xs c).set c (t * tot lo hi es b c xs) := by
  apply List.ext_getElem?
  intro j
  by_cases hj : j < lenN es b
  · by_cases hjc : j = c
    · subst hjc
      rw [List.getElem?_set_self (by rw [mulTo_length]; exact hj)]
      simp [mulTo, hj]
    · rw [List.getElem?_set_ne (fun h => hjc h.symm)]
      simp only [mulTo, List.getElem?_map, List.getElem?_range hj, Option.map_some]
      by_cases h : j < c
      · rw [if_pos h, if_pos (by omega)]
      · rw [if_neg h, if_neg (by omega)]
  · rw [List.getElem?_eq_none (by rw [mulTo_length]; omega), List.getElem?_eq_none (by rw [List.length_set, mulTo_length]; omega)]
theorem vecM_lt {t : Nat} {lo hi : Int} {es : List Int} {b : Nat} {xs : List Int} (h : t * xs.length < 4294967296) : ∀ x ∈ vecM t lo hi es b xs, x < 4294967296 := by
  intro x hx
  obtain ⟨j, _, rfl⟩ := List.mem_map.1 hx
  have := Nat.mul_le_mul_left t (tot_le lo hi es b j xs)
  omega
theorem plN_lt {lo hi : Int} (h : lo ≤ hi) (x : Int) : plN lo hi x < 2 ^ bitsN (hi - lo).toNat := by
  have h1 := bits_lt (hi - lo).toNat
  have h2 := clampZ_in (x := x) h
  unfold plN
  omega
theorem hl_times (t : Nat) (q : Int) : Wd.hi (zN ((t : Int) * q)) = Wd.hi (zN q * t) ∧ Wd.lo (zN ((t : Int) * q)) = Wd.lo (zN q * t) := by
  have h : (zN q * t) % Wd.M = zN ((t : Int) * q) % Wd.M := zN_mod (by
    rw [Int.natCast_mul, zN_cast, Int.mul_comm (t : Int) q, Int.mul_emod, Int.emod_emod, ← Int.mul_emod])
  exact Wd.hl_eq h.symm
end Pn
end Go.Proofs.Ythaaajepolahfaa
