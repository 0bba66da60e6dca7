/-
  Bins between rising edges, and how many samples each has. Plain mathematics: nothing of the program.
-/
import Derived.Test.YtgaphbncefphbaaDoorPlanN
namespace Go.Proofs.YtgaphbncefphbaaDoor
set_option linter.unusedVariables false
namespace Pn

/-- How many edges, from the first on, are not above c. -/
def binN (es : List Int) (c : Int) : Nat := (es.takeWhile fun e => decide (e ≤ c)).length
theorem binN_le (es : List Int) (c : Int) : binN es c ≤ es.length := (List.takeWhile_sublist _).length_le
theorem binN_below : ∀ (es : List Int) (c : Int) (j : Nat), j < binN es c → es.getD j 0 ≤ c
  | [], c, j, h => by simp [binN] at h
  | e :: r, c, j, h => by
    unfold binN at h
    rw [List.takeWhile_cons] at h
    split at h
    · rename_i he
      cases j with
      | zero => simpa using he
      | succ j =>
        have := binN_below r c j (by unfold binN; simpa using h)
        simpa using this
    · simp at h
theorem binN_above : ∀ (es : List Int) (c : Int), binN es c < es.length → ¬ es.getD (binN es c) 0 ≤ c
  | [], c, h => by simp [binN] at h
  | e :: r, c, h => by
    unfold binN at h ⊢
    rw [List.takeWhile_cons] at h ⊢
    split
    · rename_i he
      rw [if_pos he] at h
      have := binN_above r c (by unfold binN; simpa using h)
      simpa [binN] using this
    · rename_i he
      simpa using he
/-- What tells it. -/
theorem binN_eq {es : List Int} {c : Int} {k : Nat} (hk : k ≤ es.length) (h1 : ∀ j, j < k → es.getD j 0 ≤ c) (h2 : k < es.length → ¬ es.getD k 0 ≤ c) : k = binN es c := by
  rcases Nat.lt_trichotomy k (binN es c) with h | h | h
  · exact absurd (binN_below es c k h) (h2 (Nat.lt_of_lt_of_le h (binN_le es c)))
  · exact h
  · exact absurd (h1 _ h) (binN_above es c (by omega))
theorem binN_mono {es : List Int} {c d : Int} (h : c ≤ d) : binN es c ≤ binN es d := by
  apply Nat.le_of_not_lt
  intro hlt
  have h1 := binN_below es c (binN es d) hlt
  have h2 := binN_above es d (Nat.lt_of_lt_of_le hlt (binN_le es c))
  omega

/-- The bin of a sample. -/
def binX (lo hi : Int) (es : List Int) (x : Int) : Nat := binN es (clampZ lo hi x)
theorem binX_le (lo hi : Int) (es : List Int) (x : Int) : binX lo hi es x ≤ es.length := binN_le _ _
/-- How many samples each bin has. -/
def cntL (lo hi : Int) (es : List Int) (xs : List Int) : List Int := (List.range (es.length + 1)).map fun j => ((xs.countP fun x => binX lo hi es x == j : Nat) : Int)
theorem cntL_length (lo hi : Int) (es xs : List Int) : (cntL lo hi es xs).length = es.length + 1 := by simp [cntL]
theorem cntL_get (lo hi : Int) (es xs : List Int) {j : Nat} (hj : j ≤ es.length) : (cntL lo hi es xs).getD j 0 = ((xs.countP fun x => binX lo hi es x == j : Nat) : Int) := by
  have : j < es.length + 1 := by omega
  simp [cntL, List.getD, this]
theorem cntL_nil (lo hi : Int) (es : List Int) : cntL lo hi es [] = List.replicate (es.length + 1) 0 := by
  apply List.ext_getElem?
  intro j
  by_cases hj : j < es.length + 1
  · simp [cntL, hj]
  · simp [cntL, hj]
theorem cntL_add (lo hi : Int) (es xs : List Int) (x : Int) : cntL lo hi es (xs ++ [x]) = (cntL lo hi es xs).set (binX lo hi es x) ((cntL lo hi es xs).getD (binX lo hi es x) 0 + 1) := by
  rw [cntL_get lo hi es xs (binX_le lo hi es x)]
  apply List.ext_getElem?
  intro j
  by_cases hj : j < es.length + 1
  · by_cases hb : binX lo hi es x = j
    · subst hb
      simp [cntL, hj, List.countP_append]
    · have hb' : (binX lo hi es x == j) = false := by simpa using hb
      rw [List.getElem?_set_ne hb]
      simp [cntL, hj, List.countP_append, hb]
  · rw [List.getElem?_eq_none (by simp [cntL]; omega), List.getElem?_eq_none (by simp [cntL]; omega)]
theorem cntL_bound (lo hi : Int) (es xs : List Int) (j : Nat) : 0 ≤ (cntL lo hi es xs).getD j 0 ∧ (cntL lo hi es xs).getD j 0 ≤ xs.length := by
  by_cases hj : j ≤ es.length
  · rw [cntL_get lo hi es xs hj]
    have := List.countP_le_length (p := fun x => binX lo hi es x == j) (l := xs)
    omega
  · have : ¬ j < es.length + 1 := by omega
    simp [cntL, List.getD, this]
/-- All bins together. -/
def sumI : List Int → Int
  | [] => 0
  | z :: r => z + sumI r
theorem sumI_append : ∀ (l m : List Int), sumI (l ++ m) = sumI l + sumI m
  | [], m => by simp [sumI]
  | z :: r, m => by rw [List.cons_append, sumI, sumI, sumI_append r m]; omega
theorem sumI_set : ∀ (l : List Int) (j : Nat) (z : Int), j < l.length → sumI (l.set j z) = sumI l - l.getD j 0 + z
  | [], j, z, h => by simp at h
  | a :: r, 0, z, h => by simp [sumI]; omega
  | a :: r, j + 1, z, h => by
    have := sumI_set r j z (by simpa using h)
    simp [sumI, this] at *
    omega
theorem sumI_zeros : ∀ n : Nat, sumI (List.replicate n 0) = 0
  | 0 => rfl
  | n + 1 => by rw [List.replicate_succ, sumI, sumI_zeros n]; rfl
theorem cntL_sum (lo hi : Int) (es : List Int) (xs : List Int) : sumI (cntL lo hi es xs) = xs.length := by
  generalize hm : xs.length = m
  induction m generalizing xs with
  | zero =>
    have : xs = [] := List.length_eq_zero_iff.1 hm
    subst this
    rw [cntL_nil, sumI_zeros]; rfl
  | succ m ih =>
    have hne : xs ≠ [] := by intro h; subst h; simp at hm
    obtain ⟨ys, y, rfl⟩ : ∃ ys y, xs = ys ++ [y] := ⟨xs.dropLast, xs.getLast hne, (List.dropLast_concat_getLast hne).symm⟩
    have hl : ys.length = m := by simpa using hm
    rw [cntL_add, sumI_set _ _ _ (by rw [cntL_length]; have := binX_le lo hi es y; omega), ih ys hl]
    omega
theorem sumI_take (l : List Int) {j : Nat} (hj : j < l.length) : sumI (l.take (j + 1)) = sumI (l.take j) + l.getD j 0 := by
  rw [List.take_add_one, List.getElem?_eq_getElem hj, Option.toList_some, sumI_append]
  simp [sumI, List.getD, hj]

/-- What is wrong with samples of a plan. -/
def capZ (s mo : Int) (k : Nat) : Int := if s = 0 then (if mo < k then 9 else 0) else s
def binS (s lo hi : Int) (es : List Int) (x : Int) : Int := if s = 0 then ((binX lo hi es x : Nat) : Int) else 0
theorem cap_bad {s mo : Int} {k : Nat} (h : s ≠ 0) : capZ s mo k = s := if_neg h
theorem cap_many {s mo : Int} {k : Nat} (h : s = 0) (h2 : mo < k) : capZ s mo k = 9 := by rw [capZ, if_pos h, if_pos h2]
theorem cap_ok {s mo : Int} {k : Nat} (h : s = 0) (h2 : ¬ mo < k) : capZ s mo k = 0 := by rw [capZ, if_pos h, if_neg h2]

/-- Samples that came in. -/
structure Sam (w : World) (b : Option Addr) (k : Nat) (xs : List Int) : Prop where
  len : xs.length = k
  small : k ≤ 9223372036854775807
  each : ∀ e ∈ xs, B64 e
  rd : Rd w b (ints xs)
theorem Sam.mono {w w' : World} {b : Option Addr} {k : Nat} {xs : List Int} (h : Sam w b k xs) (o : Old w w') : Sam w' b k xs := ⟨h.len, h.small, h.each, h.rd.mono o⟩
theorem Sam.cut {w : World} {b : Option Addr} {k : Nat} {xs : List Int} (h : Sam w b k xs) {m : Nat} (hm : m ≤ k) : Sam w b m (xs.take m) :=
  ⟨by rw [List.length_take, h.len]; omega, Nat.le_trans hm h.small, fun e he => h.each e (List.mem_of_mem_take he), fun i v hv => h.rd i v (by
    unfold ints at *
    rw [List.map_take] at hv
    have hi : i < m := by
      have := (List.getElem?_eq_some_iff.1 hv).1
      rw [List.length_take] at this; omega
    rwa [List.getElem?_take_of_lt hi] at hv)⟩
end Pn
end Go.Proofs.YtgaphbncefphbaaDoor
