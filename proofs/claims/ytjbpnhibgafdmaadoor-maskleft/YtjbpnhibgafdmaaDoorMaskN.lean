/-
  Masks over natural numbers: a donor's own, that of two, those of a donor with others. Nothing of the program.
-/
import Derived.Test.YtjbpnhibgafdmaaDoorSeeds
import Derived.Test.YtjbpnhibgafdmaaDoorCrdIn
import Derived.Test.YtjbpnhibgafdmaaDoorVec
import Derived.Test.YtjbpnhibgafdmaaDoorAgreeR
namespace Go.Proofs.YtjbpnhibgafdmaaDoor
open Go.RowKit Cha M Vec Sl
set_option linter.unusedVariables false
namespace Mk

def whoAt (l : List Crd) (j : Nat) : Int := (l.getD j ⟨0, 0, 0⟩).who
/-- The first i cards' donors rise, from 1 to 64. -/
def riseTo (l : List Crd) (i : Nat) : Bool := (List.range i).all fun j => decide (1 ≤ whoAt l j) && decide (whoAt l j ≤ 64) && (decide (j = 0) || decide (whoAt l (j - 1) < whoAt l j))
def riseB (l : List Crd) : Bool := riseTo l l.length
theorem riseTo_next (l : List Crd) (i : Nat) : riseTo l (i + 1) = (riseTo l i && (decide (1 ≤ whoAt l i) && decide (whoAt l i ≤ 64) && (decide (i = 0) || decide (whoAt l (i - 1) < whoAt l i)))) := by
  unfold riseTo
  rw [List.range_succ, List.all_append]
  simp
theorem riseTo_bad {l : List Crd} {i : Nat} (h : riseTo l (i + 1) = false) : ∀ m, i + 1 ≤ m → riseTo l m = false := by
  intro m hm
  induction m with
  | zero => omega
  | succ m ih =>
    by_cases e : m = i
    · subst e; exact h
    · rw [riseTo_next, ih (by omega), Bool.false_and]
theorem whoAt_eq {l : List Crd} {j : Nat} {x : Crd} (h : l[j]? = some x) : whoAt l j = x.who := by
  unfold whoAt
  rw [List.getD_eq_getElem?_getD, h]
  rfl

/-- The mask of two, of the number on which they agree; a donor's own. -/
def pairV (q n : Nat) : List Nat := svec (derive q 2) 3 n
def ownV (s : List Nat) (n : Nat) : List Nat := svec s 4 n
theorem pairV_length (q n : Nat) : (pairV q n).length = n := svec_length _ _ _
theorem svec_lt32 (s : List Nat) (t m : Nat) : ∀ y ∈ svec s t m, y < 4294967296 := by
  intro y hy
  obtain ⟨k, _, rfl⟩ := List.mem_map.1 hy
  have h := fun i => at8_lt (sbytes_lt s t (4 * m)) i
  have h0 := h (4 * k)
  have h1 := h (4 * k + 1)
  have h2 := h (4 * k + 2)
  have h3 := h (4 * k + 3)
  unfold le
  omega
theorem pairV_lt (q n : Nat) : ∀ y ∈ pairV q n, y < 4294967296 := svec_lt32 _ _ _
theorem ownV_lt (s : List Nat) (n : Nat) : ∀ y ∈ ownV s n, y < 4294967296 := svec_lt32 _ _ _
theorem ownV_length (s : List Nat) (n : Nat) : (ownV s n).length = n := svec_length _ _ _

/-- The error of the first other one that has one. -/
def mskE (who : Int) (s : Nat) : List Crd → Nat
  | [] => 0
  | c :: r => if c.who = who then mskE who s r else if agE s c.key = 0 then mskE who s r else agE s c.key
def sgn (who x : Int) (turned : Bool) : Nat → Nat → Nat := if (decide (who < x) != turned) = true then add32 else sub32
def mskS (who : Int) (s n : Nat) (turned : Bool) (acc : List Nat) (c : Crd) : List Nat := if c.who = who then acc else List.zipWith (sgn who c.who turned) acc (pairV (powP c.key s) n)
/-- The masks of two of a donor with others. -/
def mskL (who : Int) (s n : Nat) (turned : Bool) (l : List Crd) : List Nat := l.foldl (mskS who s n turned) (List.replicate n 0)
theorem mskS_length (who : Int) (s n : Nat) (turned : Bool) (acc : List Nat) (c : Crd) (h : acc.length = n) : (mskS who s n turned acc c).length = n := by
  unfold mskS
  split
  · exact h
  · rw [List.length_zipWith, pairV_length]; omega
theorem foldl_length (who : Int) (s n : Nat) (turned : Bool) : ∀ (l : List Crd) (acc : List Nat), acc.length = n → (l.foldl (mskS who s n turned) acc).length = n
  | [], _, h => h
  | c :: r, acc, h => foldl_length who s n turned r _ (mskS_length who s n turned acc c h)
theorem mskL_length (who : Int) (s n : Nat) (turned : Bool) (l : List Crd) : (mskL who s n turned l).length = n := foldl_length _ _ _ _ _ _ (by simp)
theorem mskL_next (who : Int) (s n : Nat) (turned : Bool) {l : List Crd} {k : Nat} {c : Crd} (h : l[k]? = some c) : mskL who s n turned (l.take (k + 1)) = mskS who s n turned (mskL who s n turned (l.take k)) c := by
  unfold mskL
  rw [List.take_add_one, h, List.foldl_append]
  rfl
theorem mskE_append (who : Int) (s : Nat) : ∀ (l r : List Crd), mskE who s (l ++ r) = if mskE who s l = 0 then mskE who s r else mskE who s l
  | [], r => by simp [mskE]
  | c :: l, r => by
    rw [List.cons_append, mskE, mskE]
    have ih := mskE_append who s l r
    by_cases h1 : c.who = who
    · rw [if_pos h1, if_pos h1]; exact ih
    · rw [if_neg h1, if_neg h1]
      by_cases h2 : agE s c.key = 0
      · rw [if_pos h2, if_pos h2]; exact ih
      · rw [if_neg h2, if_neg h2, if_neg h2]
theorem mskE_next (who : Int) (s : Nat) {l : List Crd} {k : Nat} {c : Crd} (h : l[k]? = some c) (h0 : mskE who s (l.take k) = 0) : mskE who s (l.take (k + 1)) = if c.who = who then 0 else agE s c.key := by
  rw [List.take_add_one, h, mskE_append, if_pos h0]
  show mskE who s [c] = _
  rw [mskE]
  by_cases h1 : c.who = who
  · rw [if_pos h1, if_pos h1]; rfl
  · rw [if_neg h1, if_neg h1]
    by_cases h2 : agE s c.key = 0
    · rw [if_pos h2, h2]; rfl
    · rw [if_neg h2]
theorem mskE_stop (who : Int) (s : Nat) {l : List Crd} {k : Nat} (h0 : mskE who s (l.take k) ≠ 0) : mskE who s l = mskE who s (l.take k) := by
  conv => lhs; rw [← List.take_append_drop k l, mskE_append, if_neg h0]
/-- May the arguments be? -/
def argB (who n : Int) (l : List Crd) : Bool := decide (1 ≤ who) && decide (who ≤ 64) && (decide (0 ≤ n) && decide (n ≤ 256)) && riseB l
def masksE (who : Int) (s : Nat) (n : Int) (l : List Crd) : Nat := if argB who n l = true then mskE who s l else 1
end Mk
end Go.Proofs.YtjbpnhibgafdmaaDoor
