/-
  MgPlan: 2 parts, one behind the other; what each proves, and under which conditions, its own heading says.
-/
import Derived.Test.YtepchjpdfmleoaaMem

/-
  Plans: bounds, a cap and rising edges; whether one may be; samples within its bounds. Plain mathematics: nothing of the program.
-/
namespace Go.Proofs.Ytepchjpdfmleoaa
set_option linter.unusedVariables false
namespace Pn

def B64 (x : Int) : Prop := -9223372036854775808 ≤ x ∧ x ≤ 9223372036854775807
/-- Integers as cells. -/
def ints (es : List Int) : List Value := es.map fun (z : Int) => Value.int .i64 z
theorem ints_length (es : List Int) : (ints es).length = es.length := by simp [ints]
theorem rd_int {w : World} {a : Option Addr} {es : List Int} (h : Rd w a (ints es)) {i : Nat} (hi : i < es.length) :
    ∃ b off, a = some ⟨b, off, none⟩ ∧ w.cell? ⟨b, off + i, none⟩ = some (.int .i64 (es.getD i 0)) := by
  obtain ⟨b, off, ha, hc⟩ := h i (.int .i64 es[i]) (by simp [ints, hi])
  exact ⟨b, off, ha, by rw [hc]; simp [List.getD, hi]⟩

def bad1 (lo hi : Int) : Prop := lo < -1099511627776 ∨ 1099511627776 < hi ∨ hi < lo ∨ 1099511627776 ≤ hi - lo
instance (lo hi : Int) : Decidable (bad1 lo hi) := by unfold bad1; infer_instance
def bad2 (mo : Int) : Prop := mo < 1 ∨ 65536 < mo
instance (mo : Int) : Decidable (bad2 mo) := by unfold bad2; infer_instance
/-- The first i of them rise. -/
def risTo (es : List Int) (i : Nat) : Prop := ∀ j, j + 1 < i → es.getD j 0 < es.getD (j + 1) 0
instance (es : List Int) (i : Nat) : Decidable (risTo es i) := decidable_of_iff (∀ j < i - 1, es.getD j 0 < es.getD (j + 1) 0) ⟨fun h j hj => h j (by omega), fun h j hj => h j (by omega)⟩
def bad3 (es : List Int) : Prop := 64 < es.length ∨ ¬ risTo es es.length
instance (es : List Int) : Decidable (bad3 es) := by unfold bad3; infer_instance
/-- What is wrong with a plan, as the document tells it: 4 its bounds, 9 its cap, 10 its edges, 0 nothing. -/
def soundZ (lo hi mo : Int) (es : List Int) : Int := if bad1 lo hi then 4 else if bad2 mo then 9 else if bad3 es then 10 else 0
theorem sound_4 {lo hi mo : Int} {es : List Int} (h : bad1 lo hi) : soundZ lo hi mo es = 4 := if_pos h
theorem sound_9 {lo hi mo : Int} {es : List Int} (h1 : ¬ bad1 lo hi) (h : bad2 mo) : soundZ lo hi mo es = 9 := by rw [soundZ, if_neg h1, if_pos h]
theorem sound_10 {lo hi mo : Int} {es : List Int} (h1 : ¬ bad1 lo hi) (h2 : ¬ bad2 mo) (h : bad3 es) : soundZ lo hi mo es = 10 := by rw [soundZ, if_neg h1, if_neg h2, if_pos h]
theorem sound_0 {lo hi mo : Int} {es : List Int} (h1 : ¬ bad1 lo hi) (h2 : ¬ bad2 mo) (h : ¬ bad3 es) : soundZ lo hi mo es = 0 := by rw [soundZ, if_neg h1, if_neg h2, if_neg h]
theorem sound_of {lo hi mo : Int} {es : List Int} (h : soundZ lo hi mo es = 0) : ¬ bad1 lo hi ∧ ¬ bad2 mo ∧ ¬ bad3 es := by
  unfold soundZ at h
  split at h
  · cases h
  · split at h
    · cases h
    · split at h
      · cases h
      · exact ⟨by assumption, by assumption, by assumption⟩
theorem risTo_one (es : List Int) : risTo es 1 := fun j hj => by omega
theorem risTo_next {es : List Int} {i : Nat} (h : risTo es i) (hi : 1 ≤ i) (hlt : es.getD (i - 1) 0 < es.getD i 0) : risTo es (i + 1) := by
  intro j hj
  by_cases h' : j + 1 = i
  · subst h'; simpa using hlt
  · exact h j (by omega)
theorem risTo_not {es : List Int} {i : Nat} (hi : 1 ≤ i) (hl : i < es.length) (hlt : ¬ es.getD (i - 1) 0 < es.getD i 0) : ¬ risTo es es.length := by
  intro h
  have := h (i - 1) (by omega)
  rw [show i - 1 + 1 = i by omega] at this
  exact hlt this

/-- How many bits numbers up to d have, at least 1. -/
def bitsN (d : Nat) : Nat := d.log2 + 1
theorem bits_lt (d : Nat) : d < 2 ^ bitsN d := Nat.lt_log2_self
theorem bits_le {d n : Nat} (h1 : 1 ≤ n) (h2 : n < bitsN d) : 2 ^ n ≤ d := by
  unfold bitsN at h2
  have h0 : d ≠ 0 := by intro h; subst h; simp at h2; omega
  exact (Nat.le_log2 h0).1 (by omega)
theorem bits_40 {d : Nat} (h : d < 1099511627776) : 1 ≤ bitsN d ∧ bitsN d ≤ 40 := by
  refine ⟨by unfold bitsN; omega, ?_⟩
  apply Nat.le_of_not_lt
  intro h'
  have := bits_le (d := d) (n := 40) (by omega) h'
  omega
theorem bits_end {d n : Nat} (h1 : 1 ≤ n) (h2 : n ≤ bitsN d) (h : d < 2 ^ n) : n = bitsN d := by
  rcases Nat.lt_or_ge n (bitsN d) with h' | h'
  · have := bits_le h1 h'; omega
  · omega
def clampZ (lo hi x : Int) : Int := if x < lo then lo else if hi < x then hi else x
def bitsS (s lo hi : Int) : Int := if s = 0 then ((bitsN (hi - lo).toNat : Nat) : Int) else 0
def clampS (s lo hi x : Int) : Int := if s = 0 then clampZ lo hi x else 0
def placeS (s lo hi x : Int) : Int := if s = 0 then clampZ lo hi x - lo else 0
theorem clampZ_in {lo hi x : Int} (h : lo ≤ hi) : lo ≤ clampZ lo hi x ∧ clampZ lo hi x ≤ hi := by unfold clampZ; split <;> (try split) <;> omega

/-- A plan. -/
def pv (lo hi mo : Int) (a : Option Addr) (n cap : Nat) : Value := .agg #[.int .i64 lo, .int .i64 hi, .int .i64 mo, .slice a n cap]
/-- What is known of a plan that came in. -/
structure Fit (w : World) (lo hi mo : Int) (a : Option Addr) (n : Nat) (es : List Int) : Prop where
  lo : B64 lo
  hi : B64 hi
  mo : B64 mo
  len : es.length = n
  small : n ≤ 9223372036854775807
  each : ∀ e ∈ es, B64 e
  rd : Rd w a (ints es)
theorem Fit.mono {w w' : World} {lo hi mo : Int} {a : Option Addr} {n : Nat} {es : List Int} (h : Fit w lo hi mo a n es) (o : Old w w') : Fit w' lo hi mo a n es := ⟨h.lo, h.hi, h.mo, h.len, h.small, h.each, h.rd.mono o⟩
end Pn
end Go.Proofs.Ytepchjpdfmleoaa

/-
  Bins between rising edges, and how many samples each has. Plain mathematics: nothing of the program.
-/
namespace Go.Proofs.Ytepchjpdfmleoaa
set_option linter.unusedVariables false
namespace Pn

/-- How many edges, from the first on, are not above c. -/
def binN (es : List Int) (c : Int) : Nat := (es.takeWhile fun e => decide (e ≤ c)).length
theorem binN_le (es : List Int) (c : Int) : binN es c ≤ es.length := (List.takeWhile_sublist _).length_le
theorem binN_below : ∀ (es : List Int) (c : Int) (j : Nat), j < binN es c → es.getD j 0 ≤ c
  | [], c, j, h => by simp [binN] at h
  | e :: r, c, j, h => by
    unfold binN at h
    rw [List.takeWhile_cons] at h
    split at h
    · rename_i he
      cases j with
      | zero => simpa using he
      | succ j =>
        have := binN_below r c j (by unfold binN; simpa using h)
        simpa using this
    · simp at h
theorem binN_above : ∀ (es : List Int) (c : Int), binN es c < es.length → ¬ es.getD (binN es c) 0 ≤ c
  | [], c, h => by simp [binN] at h
  | e :: r, c, h => by
    unfold binN at h ⊢
    rw [List.takeWhile_cons] at h ⊢
    split
    · rename_i he
      rw [if_pos he] at h
      have := binN_above r c (by unfold binN; simpa using h)
      simpa [binN] using this
    · rename_i he
      simpa using he
/-- What tells it. -/
theorem binN_eq {es : List Int} {c : Int} {k : Nat} (hk : k ≤ es.length) (h1 : ∀ j, j < k → es.getD j 0 ≤ c) (h2 : k < es.length → ¬ es.getD k 0 ≤ c) : k = binN es c := by
  rcases Nat.lt_trichotomy k (binN es c) with h | h | h
  · exact absurd (binN_below es c k h) (h2 (Nat.lt_of_lt_of_le h (binN_le es c)))
  · exact h
  · exact absurd (h1 _ h) (binN_above es c (by omega))
theorem binN_mono {es : List Int} {c d : Int} (h : c ≤ d) : binN es c ≤ binN es d := by
  apply Nat.le_of_not_lt
  intro hlt
  have h1 := binN_below es c (binN es d) hlt
  have h2 := binN_above es d (Nat.lt_of_lt_of_le hlt (binN_le es c))
  omega

/-- The bin of a sample. -/
def binX (lo hi : Int) (es : List Int) (x : Int) : Nat := binN es (clampZ lo hi x)
theorem binX_le (lo hi : Int) (es : List Int) (x : Int) : binX lo hi es x ≤ es.length := binN_le _ _
/-- How many samples each bin has. -/
def cntL (lo hi : Int) (es : List Int) (xs : List Int) : List Int := (List.range (es.length + 1)).map fun j => ((xs.countP fun x => binX lo hi es x == j : Nat) : Int)
theorem cntL_length (lo hi : Int) (es xs : List Int) : (cntL lo hi es xs).length = es.length + 1 := by simp [cntL]
theorem cntL_get (lo hi : Int) (es xs : List Int) {j : Nat} (hj : j ≤ es.length) : (cntL lo hi es xs).getD j 0 = ((xs.countP fun x => binX lo hi es x == j : Nat) : Int) := by
  have : j < es.length + 1 := by omega
  simp [cntL, List.getD, this]
theorem cntL_nil (lo hi : Int) (es : List Int) : cntL lo hi es [] = List.replicate (es.length + 1) 0 := by
  apply List.ext_getElem?
  intro j
  by_cases hj : j < es.length + 1
  · simp [cntL, hj]
  · simp [cntL, hj]
theorem cntL_add (lo hi : Int) (es xs : List Int) (x : Int) : cntL lo hi es (xs ++ [x]) = (cntL lo hi es xs).set (binX lo hi es x) ((cntL lo hi es xs).getD (binX lo hi es x) 0 + 1) := by
  rw [cntL_get lo hi es xs (binX_le lo hi es x)]
  apply List.ext_getElem?
  intro j
  by_cases hj : j < es.length + 1
  · by_cases hb : binX lo hi es x = j
    · subst hb
      simp [cntL, hj, List.countP_append]
    · have hb' : (binX lo hi es x == j) = false := by simpa using hb
      rw [List.getElem?_set_ne hb]
      simp [cntL, hj, List.countP_append, hb]
  · rw [List.getElem?_eq_none (by simp [cntL]; omega), List.getElem?_eq_none (by simp [cntL]; omega)]
theorem cntL_bound (lo hi : Int) (es xs : List Int) (j : Nat) : 0 ≤ (cntL lo hi es xs).getD j 0 ∧ (cntL lo hi es xs).getD j 0 ≤ xs.length := by
  by_cases hj : j ≤ es.length
  · rw [cntL_get lo hi es xs hj]
    have := List.countP_le_length (p := fun x => binX lo hi es x == j) (l := xs)
    omega
  · have : ¬ j < es.length + 1 := by omega
    simp [cntL, List.getD, this]
/-- All bins together. -/
def sumI : List Int → Int
  | [] => 0
  | z :: r => z + sumI r
theorem sumI_append : ∀ (l m : List Int), sumI (l ++ m) = sumI l + sumI m
  | [], m => by simp [sumI]
  | z :: r, m => by rw [List.cons_append, sumI, sumI, sumI_append r m]; omega
theorem sumI_set : ∀ (l : List Int) (j : Nat) (z : Int), j < l.length → sumI (l.set j z) = sumI l - l.getD j 0 + z
  | [], j, z, h => by simp at h
  | a :: r, 0, z, h => by simp [sumI]; omega
  | a :: r, j + 1, z, h => by
    have := sumI_set r j z (by simpa using h)
    simp [sumI, this] at *
    omega
theorem sumI_zeros : ∀ n : Nat, sumI (List.replicate n 0) = 0
  | 0 => rfl
  | n + 1 => by rw [List.replicate_succ, sumI, sumI_zeros n]; rfl
theorem cntL_sum (lo hi : Int) (es : List Int) (xs : List Int) : sumI (cntL lo hi es xs) = xs.length := by
  generalize hm : xs.length = m
  induction m generalizing xs with
  | zero =>
    have : xs = [] := List.length_eq_zero_iff.1 hm
    subst this
    rw [cntL_nil, sumI_zeros]; rfl
  | succ m ih =>
    have hne : xs ≠ [] := by intro h; subst h; simp at hm
    obtain ⟨ys, y, rfl⟩ : ∃ ys y, xs = ys ++ [y] := ⟨xs.dropLast, xs.getLast hne, (List.dropLast_concat_getLast hne).symm⟩
    have hl : ys.length = m := by simpa using hm
    rw [cntL_add, sumI_set _ _ _ (by rw [cntL_length]; have := binX_le lo hi es y; omega), ih ys hl]
    omega
theorem sumI_take (l : List Int) {j : Nat} (hj : j < l.length) : sumI (l.take (j + 1)) = sumI (l.take j) + l.getD j 0 := by
  rw [List.take_add_one, List.getElem?_eq_getElem hj, Option.toList_some, sumI_append]
  simp [sumI, List.getD, hj]

/-- What is wrong with samples of a plan. -/
def capZ (s mo : Int) (k : Nat) : Int := if s = 0 then (if mo < k then 9 else 0) else s
def binS (s lo hi : Int) (es : List Int) (x : Int) : Int := if s = 0 then ((binX lo hi es x : Nat) : Int) else 0
theorem cap_bad {s mo : Int} {k : Nat} (h : s ≠ 0) : capZ s mo k = s := if_neg h
theorem cap_many {s mo : Int} {k : Nat} (h : s = 0) (h2 : mo < k) : capZ s mo k = 9 := by rw [capZ, if_pos h, if_pos h2]
theorem cap_ok {s mo : Int} {k : Nat} (h : s = 0) (h2 : ¬ mo < k) : capZ s mo k = 0 := by rw [capZ, if_pos h, if_neg h2]

/-- Samples that came in. -/
structure Sam (w : World) (b : Option Addr) (k : Nat) (xs : List Int) : Prop where
  len : xs.length = k
  small : k ≤ 9223372036854775807
  each : ∀ e ∈ xs, B64 e
  rd : Rd w b (ints xs)
theorem Sam.mono {w w' : World} {b : Option Addr} {k : Nat} {xs : List Int} (h : Sam w b k xs) (o : Old w w') : Sam w' b k xs := ⟨h.len, h.small, h.each, h.rd.mono o⟩
theorem Sam.cut {w : World} {b : Option Addr} {k : Nat} {xs : List Int} (h : Sam w b k xs) {m : Nat} (hm : m ≤ k) : Sam w b m (xs.take m) :=
  ⟨by rw [List.length_take, h.len]; omega, Nat.le_trans hm h.small, fun e he => h.each e (List.mem_of_mem_take he), fun i v hv => h.rd i v (by
    unfold ints at *
    rw [List.map_take] at hv
    have hi : i < m := by
      have := (List.getElem?_eq_some_iff.1 hv).1
      rw [List.length_take] at this; omega
    rwa [List.getElem?_take_of_lt hi] at hv)⟩
end Pn
end Go.Proofs.Ytepchjpdfmleoaa
