/-
  How many bits of a number are 1, counted as the library does it: in pairs, in fours, in bytes.
-/
import Derived.Test.YtgaphbncefphbaaDoorCrowdN
namespace Go.Proofs.YtgaphbncefphbaaDoor.Cr
set_option linter.unusedVariables false

theorem lsTo_low (c k : Nat) : (lsTo c (k + 1)).length = c % 2 + (lsTo (c / 2) k).length := by
  unfold lsTo
  rw [List.length_map, List.length_map, List.range_succ_eq_map, List.filter_cons, List.filter_map]
  have e : ((fun i => c.testBit i) ∘ Nat.succ) = fun i => (c / 2).testBit i := by
    funext i
    show c.testBit (i + 1) = _
    rw [Nat.testBit_succ]
  rw [e, Nat.testBit_zero]
  have := Nat.mod_two_eq_zero_or_one c
  rcases this with h | h <;> rw [h] <;> simp <;> omega
theorem lsTo_zero (c : Nat) : (lsTo c 0).length = 0 := rfl
/-- The 1s of a byte. -/
def pop8 (l : Nat) : Nat := l % 2 + (l / 2 % 2 + (l / 4 % 2 + (l / 8 % 2 + (l / 16 % 2 + (l / 32 % 2 + (l / 64 % 2 + l / 128 % 2))))))
theorem lsTo_byte (c k : Nat) : (lsTo c (k + 8)).length = pop8 (c % 256) + (lsTo (c / 256) k).length := by
  rw [show k + 8 = k + 7 + 1 by omega, lsTo_low, show k + 7 = k + 6 + 1 by omega, lsTo_low, show k + 6 = k + 5 + 1 by omega, lsTo_low, show k + 5 = k + 4 + 1 by omega, lsTo_low,
    show k + 4 = k + 3 + 1 by omega, lsTo_low, show k + 3 = k + 2 + 1 by omega, lsTo_low, show k + 2 = k + 1 + 1 by omega, lsTo_low, lsTo_low]
  rw [show c / 2 / 2 / 2 / 2 / 2 / 2 / 2 / 2 = c / 256 by omega]
  unfold pop8
  omega
/-- The same byte so many times. -/
def rep (c : Nat) : Nat → Nat
  | 0 => 0
  | n + 1 => 256 * rep c n + c
theorem and_byte (h l m c : Nat) (hl : l < 256) (hc : c < 256) : (256 * h + l) &&& (256 * m + c) = 256 * (h &&& m) + (l &&& c) := by
  have hlc : l &&& c < 2 ^ 8 := Nat.lt_of_le_of_lt Nat.and_le_left hl
  apply Nat.eq_of_testBit_eq
  intro j
  rw [Nat.testBit_and, show 256 = 2 ^ 8 from rfl, Nat.testBit_two_pow_mul_add _ hl, Nat.testBit_two_pow_mul_add _ hc, Nat.testBit_two_pow_mul_add _ hlc]
  split
  · rw [Nat.testBit_and]
  · rw [Nat.testBit_and]
/-- A number moved down by s, its bytes masked by one of 8 - s bits. -/
theorem shr_byte (s h l m c : Nat) (hs : s ≤ 8) (hl : l < 256) (hc : c < 2 ^ (8 - s)) : ((256 * h + l) / 2 ^ s) &&& (256 * m + c) = 256 * ((h / 2 ^ s) &&& m) + ((l / 2 ^ s) &&& c) := by
  have hc8 : c < 2 ^ 8 := Nat.lt_of_lt_of_le hc (Nat.pow_le_pow_right (by decide) (by omega))
  have hlc : (l / 2 ^ s) &&& c < 2 ^ 8 := Nat.lt_of_le_of_lt Nat.and_le_right hc8
  apply Nat.eq_of_testBit_eq
  intro j
  rw [Nat.testBit_and, show 256 = 2 ^ 8 from rfl, Nat.testBit_div_two_pow, Nat.testBit_two_pow_mul_add _ hl, Nat.testBit_two_pow_mul_add _ hc8, Nat.testBit_two_pow_mul_add _ hlc]
  by_cases h1 : j < 8
  · rw [if_pos h1, if_pos h1, Nat.testBit_and, Nat.testBit_div_two_pow]
    by_cases h2 : j + s < 8
    · rw [if_pos h2]
    · rw [Nat.testBit_lt_two_pow (x := c) (i := j) (Nat.lt_of_lt_of_le hc (Nat.pow_le_pow_right (by decide) (by omega))), Bool.and_false, Bool.and_false]
  · rw [if_neg h1, if_neg h1, if_neg (by omega), Nat.testBit_and, Nat.testBit_div_two_pow, show j + s - 8 = j - 8 + s by omega]
/-- One step: what two neighbours of s bits come to. -/
def fold (s c n x : Nat) : Nat := (x / 2 ^ s &&& rep c n) + (x &&& rep c n)
def fold1 (s c l : Nat) : Nat := (l / 2 ^ s &&& c) + (l &&& c)
theorem fold_byte (s c n h l : Nat) (hs : s ≤ 8) (hl : l < 256) (hc : c < 2 ^ (8 - s)) : fold s c (n + 1) (256 * h + l) = 256 * fold s c n h + fold1 s c l := by
  have hc8 : c < 256 := Nat.lt_of_lt_of_le hc (Nat.le_trans (Nat.pow_le_pow_right (by decide) (show 8 - s ≤ 8 by omega)) (by decide))
  unfold fold fold1
  rw [show rep c (n + 1) = 256 * rep c n + c from rfl, shr_byte s h l _ c hs hl hc, and_byte h l _ c hl hc8]
  omega
theorem fold1_a : ∀ l : Fin 256, fold1 1 85 l < 256 := by decide +kernel
theorem fold1_b : ∀ l : Fin 256, fold1 2 51 (fold1 1 85 l) < 256 ∧ fold1 2 51 (fold1 1 85 l) % 16 ≤ 4 ∧ fold1 2 51 (fold1 1 85 l) / 16 ≤ 4 ∧ fold1 2 51 (fold1 1 85 l) % 16 + fold1 2 51 (fold1 1 85 l) / 16 = pop8 l := by decide +kernel
theorem and15 : ∀ l : Fin 256, l.val &&& 15 = l.val % 16 := by decide +kernel
def step2 (n x : Nat) : Nat := fold 2 51 n (fold 1 85 n x)
theorem step2_byte (n h l : Nat) (hl : l < 256) : step2 (n + 1) (256 * h + l) = 256 * step2 n h + fold1 2 51 (fold1 1 85 l) := by
  unfold step2
  rw [fold_byte 1 85 n h l (by decide) hl (by decide), fold_byte 2 51 n _ _ (by decide) (fold1_a ⟨l, hl⟩) (by decide)]
def step3 (n x : Nat) : Nat := (x / 2 ^ 4 + x) &&& rep 15 n
/-- The bytes' 1s, each in its byte. -/
def pops : Nat → Nat → Nat
  | 0, _ => 0
  | n + 1, x => 256 * pops n (x / 256) + pop8 (x % 256)
theorem step2_low (n x : Nat) : step2 n x % 16 ≤ 4 := by
  cases n with
  | zero =>
    show ((_ / 2 ^ 2 &&& 0) + (_ &&& 0)) % 16 ≤ 4
    simp
  | succ n =>
    have hl : x % 256 < 256 := Nat.mod_lt _ (by decide)
    have := step2_byte n (x / 256) (x % 256) hl
    rw [Nat.div_add_mod] at this
    rw [this]
    have := fold1_b ⟨x % 256, hl⟩
    simp only at this
    omega
theorem step3_is (n x : Nat) : step3 n (step2 n x) = pops n x := by
  induction n generalizing x with
  | zero =>
    show _ &&& 0 = 0
    simp
  | succ n ih =>
    have hl : x % 256 < 256 := Nat.mod_lt _ (by decide)
    have e := step2_byte n (x / 256) (x % 256) hl
    rw [Nat.div_add_mod] at e
    rw [e]
    have hh := step2_low n (x / 256)
    have hb := fold1_b ⟨x % 256, hl⟩
    simp only at hb
    obtain ⟨b0, b1, b2, b3⟩ := hb
    have IH := ih (x / 256)
    generalize step2 n (x / 256) = y at *
    generalize fold1 2 51 (fold1 1 85 (x % 256)) = z at *
    unfold step3 rep
    have e2 : (256 * y + z) / 2 ^ 4 + (256 * y + z) = 256 * (y / 2 ^ 4 + y) + (16 * (y % 16 + z / 16) + (z % 16 + z / 16)) := by omega
    rw [e2, and_byte _ _ _ 15 (by omega) (by decide), and15 ⟨16 * (y % 16 + z / 16) + (z % 16 + z / 16), by omega⟩]
    show 256 * step3 n y + _ = _
    rw [IH]
    show _ = 256 * pops n (x / 256) + pop8 (x % 256)
    rw [← b3]
    simp only
    omega
theorem pop8_le : ∀ l : Fin 256, pop8 l ≤ 8 := by decide +kernel
theorem pop8_le' (x : Nat) : pop8 (x % 256) ≤ 8 := pop8_le ⟨x % 256, Nat.mod_lt _ (by decide)⟩
/-- The eight bytes' 1s are the whole's. -/
theorem pops_all (c : Nat) : ∃ p0 p1 p2 p3 p4 p5 p6 p7 : Nat, p0 ≤ 8 ∧ p1 ≤ 8 ∧ p2 ≤ 8 ∧ p3 ≤ 8 ∧ p4 ≤ 8 ∧ p5 ≤ 8 ∧ p6 ≤ 8 ∧ p7 ≤ 8
    ∧ pops 8 c = 256 * (256 * (256 * (256 * (256 * (256 * (256 * p7 + p6) + p5) + p4) + p3) + p2) + p1) + p0 ∧ sizeC c = p0 + (p1 + (p2 + (p3 + (p4 + (p5 + (p6 + p7)))))) := by
  refine ⟨_, _, _, _, _, _, _, _, pop8_le' c, pop8_le' (c / 256), pop8_le' (c / 256 / 256), pop8_le' (c / 256 / 256 / 256), pop8_le' (c / 256 / 256 / 256 / 256), pop8_le' (c / 256 / 256 / 256 / 256 / 256),
    pop8_le' (c / 256 / 256 / 256 / 256 / 256 / 256), pop8_le' (c / 256 / 256 / 256 / 256 / 256 / 256 / 256), ?_, ?_⟩
  · simp only [pops, Nat.mul_zero, Nat.zero_add]
  · show (lsTo c (0 + 8 + 8 + 8 + 8 + 8 + 8 + 8 + 8)).length = _
    simp only [lsTo_byte, lsTo_zero, Nat.add_zero]
theorem rep85 : rep 85 8 = 6148914691236517205 := by decide
theorem rep51 : rep 51 8 = 3689348814741910323 := by decide
theorem rep15 : rep 15 8 = 1085102592571150095 := by decide
/-- Each step of the library, with its bounds. -/
theorem pop_steps (x : Nat) (hx : x < 18446744073709551616) : ∃ a b s1 c d s2 s3 t u v : Nat,
    x / 2 &&& 6148914691236517205 = a ∧ x &&& 6148914691236517205 = b ∧ a + b = s1 ∧ s1 / 4 &&& 3689348814741910323 = c ∧ s1 &&& 3689348814741910323 = d ∧ c + d = s2
    ∧ (s2 / 16 + s2) &&& 1085102592571150095 = s3 ∧ s3 + s3 / 256 = t ∧ t + t / 65536 = u ∧ u + u / 4294967296 = v ∧ v % 128 = sizeC x
    ∧ s1 < 18446744073709551616 ∧ s2 ≤ 7378697629483820646 ∧ v < 9223372036854775808 := by
  refine ⟨_, _, _, _, _, _, _, _, _, _, rfl, rfl, rfl, rfl, rfl, rfl, rfl, rfl, rfl, rfl, ?_⟩
  have e1 : (x / 2 &&& 6148914691236517205) + (x &&& 6148914691236517205) = fold 1 85 8 x := by unfold fold; rw [rep85]
  have l1 : fold 1 85 8 x ≤ 12297829382473034410 := by
    rw [← e1]
    have := Nat.and_le_right (n := x / 2) (m := 6148914691236517205)
    have := Nat.and_le_right (n := x) (m := 6148914691236517205)
    omega
  rw [e1]
  have e2 : (fold 1 85 8 x / 4 &&& 3689348814741910323) + (fold 1 85 8 x &&& 3689348814741910323) = step2 8 x := by unfold step2 fold; rw [rep51]
  have e3 : (step2 8 x / 16 + step2 8 x) &&& 1085102592571150095 = pops 8 x := by rw [← step3_is, step3, rep15]
  rw [e2, e3]
  have l2 : step2 8 x ≤ 7378697629483820646 := by
    rw [← e2]
    have := Nat.and_le_right (n := fold 1 85 8 x / 4) (m := 3689348814741910323)
    have := Nat.and_le_right (n := fold 1 85 8 x) (m := 3689348814741910323)
    omega
  obtain ⟨p0, p1, p2, p3, p4, p5, p6, p7, h0, h1, h2, h3, h4, h5, h6, h7, hp, hs⟩ := pops_all x
  rw [hs]
  generalize pops 8 x = y at *
  have d1 : y / 256 = 256 * (256 * (256 * (256 * (256 * (256 * p7 + p6) + p5) + p4) + p3) + p2) + p1 := by omega
  generalize ht : y + y / 256 = t
  have ht1 : t = 256 * (256 * (256 * (256 * (256 * (256 * (256 * p7 + (p6 + p7)) + (p5 + p6)) + (p4 + p5)) + (p3 + p4)) + (p2 + p3)) + (p1 + p2)) + (p0 + p1) := by omega
  clear d1 hp ht
  have d2 : t / 65536 = 256 * (256 * (256 * (256 * (256 * p7 + (p6 + p7)) + (p5 + p6)) + (p4 + p5)) + (p3 + p4)) + (p2 + p3) := by omega
  generalize hu : t + t / 65536 = u
  have hu1 : u = 256 * (256 * (256 * (256 * (256 * (256 * (256 * p7 + (p6 + p7)) + (p5 + p6 + p7)) + (p4 + p5 + p6 + p7)) + (p3 + p4 + p5 + p6)) + (p2 + p3 + p4 + p5)) + (p1 + p2 + p3 + p4)) + (p0 + p1 + p2 + p3) := by omega
  clear d2 ht1 hu
  have d3 : u / 4294967296 = 256 * (256 * (256 * p7 + (p6 + p7)) + (p5 + p6 + p7)) + (p4 + p5 + p6 + p7) := by omega
  generalize hv : u + u / 4294967296 = v
  have hv1 : v = 256 * (256 * (256 * (256 * (256 * (256 * (256 * p7 + (p6 + p7)) + (p5 + p6 + p7)) + (p4 + p5 + p6 + p7)) + (p3 + p4 + p5 + p6 + p7)) + (p2 + p3 + p4 + p5 + p6 + p7)) + (p1 + p2 + p3 + p4 + p5 + p6 + p7)) + (p0 + p1 + p2 + p3 + (p4 + p5 + p6 + p7)) := by omega
  clear d3 hu1 hv
  exact ⟨by omega, by omega, l2, by omega⟩
end Go.Proofs.YtgaphbncefphbaaDoor.Cr
