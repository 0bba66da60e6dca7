/-
  Plans: bounds, a cap and rising edges; whether one may be; samples within its bounds. Plain mathematics: nothing of the program.
-/
import Derived.Test.YtnmigdcedcmbkaaMem
namespace Go.Proofs.Ytnmigdcedcmbkaa
set_option linter.unusedVariables false
namespace Pn

def B64 (x : Int) : Prop := -9223372036854775808 ≤ x ∧ x ≤ 9223372036854775807
/-- Integers as cells. -/
def ints (es : List Int) : List Value := es.map fun (z : Int) => Value.int .i64 z
theorem ints_length (es : List Int) : (ints es).length = es.length := by simp [ints]
theorem rd_int {w : World} {a : Option Addr} {es : List Int} (h : Rd w a (ints es)) {i : Nat} (hi : i < es.length) :
    ∃ b off, a = some ⟨b, off, none⟩ ∧ w.cell? ⟨b, off + i, none⟩ = some (.int .i64 (es.getD i 0)) := by
  obtain ⟨b, off, ha, hc⟩ := h i (.int .i64 es[i]) (by simp [ints, hi])
  exact ⟨b, off, ha, by rw [hc]; simp [List.getD, hi]⟩

def bad1 (lo hi : Int) : Prop := lo < -1099511627776 ∨ 1099511627776 < hi ∨ hi < lo ∨ 1099511627776 ≤ hi - lo
instance (lo hi : Int) : Decidable (bad1 lo hi) := by unfold bad1; infer_instance
def bad2 (mo : Int) : Prop := mo < 1 ∨ 65536 < mo
instance (mo : Int) : Decidable (bad2 mo) := by unfold bad2; infer_instance
/-- The first i of them rise. -/
def risTo (es : List Int) (i : Nat) : Prop := ∀ j, j + 1 < i → es.getD j 0 < es.getD (j + 1) 0
instance (es : List Int) (i : Nat) : Decidable (risTo es i) := decidable_of_iff (∀ j < i - 1, es.getD j 0 < es.getD (j + 1) 0) ⟨fun h j hj => h j (by omega), fun h j hj => h j (by omega)⟩
def bad3 (es : List Int) : Prop := 64 < es.length ∨ ¬ risTo es es.length
instance (es : List Int) : Decidable (bad3 es) := by unfold bad3; infer_instance
/-- What is wrong with a plan, as the document tells it: 4 its bounds, 9 its cap, 10 its edges, 0 nothing. -/
def soundZ (lo hi mo : Int) (es : List Int) : Int := if bad1 lo hi then 4 else if bad2 mo then 9 else if bad3 es then 10 else 0
theorem sound_4 {lo hi mo : Int} {es : List Int} (h : bad1 lo hi) : soundZ lo hi mo es = 4 := if_pos h
theorem sound_9 {lo hi mo : Int} {es : List Int} (h1 : ¬ bad1 lo hi) (h : bad2 mo) : soundZ lo hi mo es = 9 := by rw [soundZ, if_neg h1, if_pos h]
theorem sound_10 {lo hi mo : Int} {es : List Int} (h1 : ¬ bad1 lo hi) (h2 : ¬ bad2 mo) (h : bad3 es) : soundZ lo hi mo es = 10 := by rw [soundZ, if_neg h1, if_neg h2, if_pos h]
theorem sound_0 {lo hi mo : Int} {es : List Int} (h1 : ¬ bad1 lo hi) (h2 : ¬ bad2 mo) (h : ¬ bad3 es) : soundZ lo hi mo es = 0 := by rw [soundZ, if_neg h1, if_neg h2, if_neg h]
theorem sound_of {lo hi mo : Int} {es : List Int} (h : soundZ lo hi mo es = 0) : ¬ bad1 lo hi ∧ ¬ bad2 mo ∧ ¬ bad3 es := by
  unfold soundZ at h
  split at h
  · cases h
  · split at h
    · cases h
    · split at h
      · cases h
      · exact ⟨by assumption, by assumption, by assumption⟩
theorem risTo_one (es : List Int) : risTo es 1 := fun j hj => by omega
theorem risTo_next {es : List Int} {i : Nat} (h : risTo es i) (hi : 1 ≤ i) (hlt : es.getD (i - 1) 0 < es.getD i 0) : risTo es (i + 1) := by
  intro j hj
  by_cases h' : j + 1 = i
  · subst h'; simpa using hlt
  · exact h j (by omega)
theorem risTo_not {es : List Int} {i : Nat} (hi : 1 ≤ i) (hl : i < es.length) (hlt : ¬ es.getD (i - 1) 0 < es.getD i 0) : ¬ risTo es es.length := by
  intro h
  have := h (i - 1) (by omega)
  rw [show i - 1 + 1 = i by omega] at this
  exact hlt this

/-- How many bits numbers up to d have, at least 1. -/
def bitsN (d : Nat) : Nat := d.log2 + 1
theorem bits_lt (d : Nat) : d < 2 ^ bitsN d := Nat.lt_log2_self
theorem bits_le {d n : Nat} (h1 : 1 ≤ n) (h2 : n < bitsN d) : 2 ^ n ≤ d := by
  unfold bitsN at h2
  have h0 : d ≠ 0 := by intro h; subst h; simp at h2; omega
  exact (Nat.le_log2 h0).1 (by omega)
theorem bits_40 {d : Nat} (h : d < 1099511627776) : 1 ≤ bitsN d ∧ bitsN d ≤ 40 := by
  refine ⟨by unfold bitsN; omega, ?_⟩
  apply Nat.le_of_not_lt
  intro h'
  have := bits_le (d := d) (n := 40) (by omega) h'
  omega
theorem bits_end {d n : Nat} (h1 : 1 ≤ n) (h2 : n ≤ bitsN d) (h : d < 2 ^ n) : n = bitsN d := by
  rcases Nat.lt_or_ge n (bitsN d) with h' | h'
  · have := bits_le h1 h'; omega
  · omega
def clampZ (lo hi x : Int) : Int := if x < lo then lo else if hi < x then hi else x
def bitsS (s lo hi : Int) : Int := if s = 0 then ((bitsN (hi - lo).toNat : Nat) : Int) else 0
def clampS (s lo hi x : Int) : Int := if s = 0 then clampZ lo hi x else 0
def placeS (s lo hi x : Int) : Int := if s = 0 then clampZ lo hi x - lo else 0
theorem clampZ_in {lo hi x : Int} (h : lo ≤ hi) : lo ≤ clampZ lo hi x ∧ clampZ lo hi x ≤ hi := by unfold clampZ; split <;> (try split) <;> omega

/-- A plan. -/
def pv (lo hi mo : Int) (a : Option Addr) (n cap : Nat) : Value := .agg #[.int .i64 lo, .int .i64 hi, .int .i64 mo, .slice a n cap]
/-- What is known of a plan that came in. -/
structure Fit (w : World) (lo hi mo : Int) (a : Option Addr) (n : Nat) (es : List Int) : Prop where
  lo : B64 lo
  hi : B64 hi
  mo : B64 mo
  len : es.length = n
  small : n ≤ 9223372036854775807
  each : ∀ e ∈ es, B64 e
  rd : Rd w a (ints es)
theorem Fit.mono {w w' : World} {lo hi mo : Int} {a : Option Addr} {n : Nat} {es : List Int} (h : Fit w lo hi mo a n es) (o : Old w w') : Fit w' lo hi mo a n es := ⟨h.lo, h.hi, h.mo, h.len, h.small, h.each, h.rd.mono o⟩
end Pn
end Go.Proofs.Ytnmigdcedcmbkaa
