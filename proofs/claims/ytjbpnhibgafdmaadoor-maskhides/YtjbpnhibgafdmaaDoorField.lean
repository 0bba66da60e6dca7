/-
  Plain arithmetic: the powers of 37 are all the numbers from 1 to 2^61 - 2, modulo 2^61 - 1; so a product is 0 only if a factor is, and a number's power to 2^61 - 2 is 1.
-/
import Derived.Test.YtjbpnhibgafdmaaDoorMath
namespace Go.Proofs.YtjbpnhibgafdmaaDoor.M
set_option linter.unusedVariables false

/-- a power by squares, with fuel -/
def pf : Nat → Nat → Nat → Nat
  | 0, _, _ => 1
  | f + 1, b, e => if e = 0 then 1 else if e % 2 = 1 then b * pf f (b * b % 2305843009213693951) (e / 2) % 2305843009213693951 else pf f (b * b % 2305843009213693951) (e / 2)

theorem pow_split (b e : Nat) : b ^ e = (b * b) ^ (e / 2) * b ^ (e % 2) := by
  conv => lhs; rw [← Nat.div_add_mod e 2]
  rw [Nat.pow_add, Nat.pow_mul, Nat.pow_two]

theorem pf_eq : ∀ (f b e : Nat), e < 2 ^ f → pf f b e % 2305843009213693951 = powP b e := by
  intro f
  induction f with
  | zero => intro b e h; have : e = 0 := by simpa using h
            subst this; rfl
  | succ f ih =>
    intro b e h
    unfold pf
    by_cases h0 : e = 0
    · subst h0; rfl
    · rw [if_neg h0]
      have hh := ih (b * b % 2305843009213693951) (e / 2) (by rw [Nat.pow_succ] at h; omega)
      unfold powP at hh ⊢
      rw [← Nat.pow_mod] at hh
      by_cases h1 : e % 2 = 1
      · rw [if_pos h1, Nat.mod_mod, pow_split b e, h1, Nat.pow_one, Nat.mul_comm, ← Nat.mod_mul_mod, hh, Nat.mod_mul_mod]
      · have h2 : e % 2 = 0 := by omega
        rw [if_neg h1, hh, pow_split b e, h2, Nat.pow_zero, Nat.mul_one]

theorem powP_mod (a n : Nat) : powP (a % 2305843009213693951) n = powP a n := by
  unfold powP; rw [← Nat.pow_mod]
theorem powP_add (a n m : Nat) : mulP (powP a n) (powP a m) = powP a (n + m) := by
  unfold powP mulP; rw [Nat.pow_add, ← Nat.mul_mod]
theorem powP_zero (a : Nat) : powP a 0 = 1 := by simp [powP]
theorem mulP_comm (a b : Nat) : mulP a b = mulP b a := by unfold mulP; rw [Nat.mul_comm]
theorem mulP_assoc (a b c : Nat) : mulP (mulP a b) c = mulP a (mulP b c) := by
  unfold mulP; rw [Nat.mod_mul_mod, Nat.mul_mod_mod, Nat.mul_assoc]
theorem mulP_one (a : Nat) : mulP a 1 = md a := by simp [mulP, md]
theorem one_mulP (a : Nat) : mulP 1 a = md a := by simp [mulP, md]
theorem md_md (a : Nat) : md (md a) = md a := by simp [md]
theorem md_of_lt {a : Nat} (h : a < 2305843009213693951) : md a = a := Nat.mod_eq_of_lt h
theorem mulP_md_left (a b : Nat) : mulP (md a) b = mulP a b := by unfold mulP md; rw [Nat.mod_mul_mod]
theorem mulP_md_right (a b : Nat) : mulP a (md b) = mulP a b := by unfold mulP md; rw [Nat.mul_mod_mod]
theorem md_mulP (a b : Nat) : md (mulP a b) = mulP a b := md_of_lt (mulP_lt a b)
theorem md_powP (a b : Nat) : md (powP a b) = powP a b := md_of_lt (powP_lt a b)
theorem powP_mul (a n m : Nat) : powP a (n * m) = powP (powP a n) m := by
  unfold powP; rw [← Nat.pow_mod, Nat.pow_mul]
theorem powP_one_base (m : Nat) : powP 1 m = 1 := by simp [powP]

/-- numbers whose powers n and m are 1: so is that to their remainder -/
theorem one_mod (a n m : Nat) (hn : powP a n = 1) (hm : powP a m = 1) : powP a (n % m) = 1 := by
  have h : powP a (m * (n / m)) = 1 := by rw [powP_mul, hm, powP_one_base]
  have e : powP a (m * (n / m) + n % m) = 1 := by rw [Nat.div_add_mod]; exact hn
  rw [← powP_add, h, one_mulP, md_powP] at e
  exact e
theorem one_gcd (a : Nat) : ∀ n m, powP a n = 1 → powP a m = 1 → powP a (Nat.gcd n m) = 1 := by
  intro n m
  induction n, m using Nat.gcd.induction with
  | H0 m => intro _ h; rw [Nat.gcd_zero_left]; exact h
  | H1 n m _ ih => intro h1 h2; rw [Nat.gcd_rec]; exact ih (one_mod a m n h2 h1) h1

/-- a function from 0 .. n - 1 to 1 .. n that takes nothing twice takes all -/
theorem takes_all (n : Nat) (f : Nat → Nat) (hr : ∀ i, i < n → 1 ≤ f i ∧ f i ≤ n) (hi : ∀ i j, i < j → j < n → f i ≠ f j) (a : Nat) (h1 : 1 ≤ a) (h2 : a ≤ n) : ∃ i, i < n ∧ f i = a := by
  refine Classical.byContradiction fun hc => ?_
  have hno : ∀ i, i < n → f i ≠ a := fun i hin e => hc ⟨i, hin, e⟩
  have hnd : (a :: (List.range n).map f).Nodup := by
    rw [List.nodup_cons]
    refine ⟨?_, ?_⟩
    · intro hm
      obtain ⟨i, hin, e⟩ := List.mem_map.1 hm
      exact hno i (List.mem_range.1 hin) e
    · rw [List.nodup_iff_pairwise_ne, List.pairwise_map]
      refine (List.pairwise_lt_range (n := n)).imp_of_mem ?_
      intro i j _ hj hij
      exact hi i j hij (List.mem_range.1 hj)
  have hsub : (a :: (List.range n).map f) ⊆ (List.range n).map (· + 1) := by
    intro x hx
    rw [List.mem_cons] at hx
    rw [List.mem_map]
    rcases hx with rfl | hx
    · exact ⟨x - 1, List.mem_range.2 (by omega), by omega⟩
    · obtain ⟨i, hin, rfl⟩ := List.mem_map.1 hx
      have := hr i (List.mem_range.1 hin)
      exact ⟨f i - 1, List.mem_range.2 (by omega), by omega⟩
  have := hnd.length_le_of_subset hsub
  simp at this
  omega

theorem small_prime (q : Nat) (h : ∀ d, d < q + 1 → q % d = 0 → d = 1 ∨ d = q) (hq : 1 ≤ q) (m : Nat) (hm : ¬ q ∣ m) : Nat.Coprime m q := by
  have h1 : Nat.gcd m q ∣ q := Nat.gcd_dvd_right m q
  have h2 : Nat.gcd m q ∣ m := Nat.gcd_dvd_left m q
  have h3 := Nat.le_of_dvd (by omega) h1
  rcases h _ (by omega) (Nat.mod_eq_zero_of_dvd h1) with e | e
  · exact e
  · rw [e] at h2; exact absurd h2 hm

theorem pf_all : pf 64 37 2305843009213693950 = 1 := by decide +kernel
theorem pf_2 : pf 64 37 1152921504606846975 ≠ 1 := by decide +kernel
theorem pf_3 : pf 64 37 768614336404564650 ≠ 1 := by decide +kernel
theorem pf_5 : pf 64 37 461168601842738790 ≠ 1 := by decide +kernel
theorem pf_7 : pf 64 37 329406144173384850 ≠ 1 := by decide +kernel
theorem pf_11 : pf 64 37 209622091746699450 ≠ 1 := by decide +kernel
theorem pf_13 : pf 64 37 177372539170284150 ≠ 1 := by decide +kernel
theorem pf_31 : pf 64 37 74382032555280450 ≠ 1 := by decide +kernel
theorem pf_41 : pf 64 37 56240073395455950 ≠ 1 := by decide +kernel
theorem pf_61 : pf 64 37 37800705069076950 ≠ 1 := by decide +kernel
theorem pf_151 : pf 64 37 15270483504726450 ≠ 1 := by decide +kernel
theorem pf_331 : pf 64 37 6966293079195450 ≠ 1 := by decide +kernel
theorem pf_1321 : pf 64 37 1745528394559950 ≠ 1 := by decide +kernel

theorem not_one {e : Nat} (he : e < 18446744073709551616) (hp : pf 64 37 e ≠ 1) (hl : pf 64 37 e < 2305843009213693951) : powP 37 e ≠ 1 := by
  rw [← pf_eq 64 37 e he, Nat.mod_eq_of_lt hl]; exact hp
theorem gen_all : powP 37 2305843009213693950 = 1 := by
  rw [← pf_eq 64 37 2305843009213693950 (by decide), pf_all]
theorem gen_2 : powP 37 1152921504606846975 ≠ 1 := not_one (by decide) pf_2 (by decide +kernel)
theorem gen_3 : powP 37 768614336404564650 ≠ 1 := not_one (by decide) pf_3 (by decide +kernel)
theorem gen_5 : powP 37 461168601842738790 ≠ 1 := not_one (by decide) pf_5 (by decide +kernel)
theorem gen_7 : powP 37 329406144173384850 ≠ 1 := not_one (by decide) pf_7 (by decide +kernel)
theorem gen_11 : powP 37 209622091746699450 ≠ 1 := not_one (by decide) pf_11 (by decide +kernel)
theorem gen_13 : powP 37 177372539170284150 ≠ 1 := not_one (by decide) pf_13 (by decide +kernel)
theorem gen_31 : powP 37 74382032555280450 ≠ 1 := not_one (by decide) pf_31 (by decide +kernel)
theorem gen_41 : powP 37 56240073395455950 ≠ 1 := not_one (by decide) pf_41 (by decide +kernel)
theorem gen_61 : powP 37 37800705069076950 ≠ 1 := not_one (by decide) pf_61 (by decide +kernel)
theorem gen_151 : powP 37 15270483504726450 ≠ 1 := not_one (by decide) pf_151 (by decide +kernel)
theorem gen_331 : powP 37 6966293079195450 ≠ 1 := not_one (by decide) pf_331 (by decide +kernel)
theorem gen_1321 : powP 37 1745528394559950 ≠ 1 := not_one (by decide) pf_1321 (by decide +kernel)

/-- a number that divides 2^61 - 2 and is not 1 is divided by one of its primes -/
theorem some_prime (m : Nat) (hm : m ∣ 2305843009213693950) (h1 : m ≠ 1) : 2 ∣ m ∨ 3 ∣ m ∨ 5 ∣ m ∨ 7 ∣ m ∨ 11 ∣ m ∨ 13 ∣ m ∨ 31 ∣ m ∨ 41 ∣ m ∨ 61 ∣ m ∨ 151 ∣ m ∨ 331 ∣ m ∨ 1321 ∣ m := by
  refine Classical.byContradiction fun hc => ?_
  simp only [not_or] at hc
  obtain ⟨c2, c3, c5, c7, c11, c13, c31, c41, c61, c151, c331, c1321⟩ := hc
  have d2 := small_prime 2 (by decide +kernel) (by omega) m c2
  have d3 := small_prime 3 (by decide +kernel) (by omega) m c3
  have d5 := small_prime 5 (by decide +kernel) (by omega) m c5
  have d7 := small_prime 7 (by decide +kernel) (by omega) m c7
  have d11 := small_prime 11 (by decide +kernel) (by omega) m c11
  have d13 := small_prime 13 (by decide +kernel) (by omega) m c13
  have d31 := small_prime 31 (by decide +kernel) (by omega) m c31
  have d41 := small_prime 41 (by decide +kernel) (by omega) m c41
  have d61 := small_prime 61 (by decide +kernel) (by omega) m c61
  have d151 := small_prime 151 (by decide +kernel) (by omega) m c151
  have d331 := small_prime 331 (by decide +kernel) (by omega) m c331
  have d1321 := small_prime 1321 (by decide +kernel) (by omega) m c1321
  have hcop : Nat.Coprime m (2 * 3 * 3 * 5 * 5 * 7 * 11 * 13 * 31 * 41 * 61 * 151 * 331 * 1321) := (((((((((((((d2).mul_right d3).mul_right d3).mul_right d5).mul_right d5).mul_right d7).mul_right d11).mul_right d13).mul_right d31).mul_right d41).mul_right d61).mul_right d151).mul_right d331).mul_right d1321
  have hn : (2 * 3 * 3 * 5 * 5 * 7 * 11 * 13 * 31 * 41 * 61 * 151 * 331 * 1321) = 2305843009213693950 := by decide +kernel
  rw [hn] at hcop
  exact h1 ((Nat.gcd_eq_left hm).symm.trans hcop)

theorem gen_step (d q k : Nat) (hk : d * q * k = 2305843009213693950) (e : Nat) (he : q * e = 2305843009213693950) (hq : 0 < q) (h : powP 37 d = 1) : powP 37 e = 1 := by
  have : e = d * k := by
    have h2 : q * e = q * (d * k) := by rw [he, ← hk, Nat.mul_comm d q, Nat.mul_assoc]
    exact Nat.eq_of_mul_eq_mul_left hq h2
  rw [this, powP_mul, h, powP_one_base]

/-- no lower power of 37 than that to 2^61 - 2 is 1 -/
theorem gen_least (d : Nat) (h0 : 0 < d) (hd : d < 2305843009213693950) : powP 37 d ≠ 1 := by
  intro h
  have hg := one_gcd 37 d 2305843009213693950 h gen_all
  obtain ⟨m, hm⟩ := Nat.gcd_dvd_right d 2305843009213693950
  have hle := Nat.gcd_le_left 2305843009213693950 h0
  generalize Nat.gcd d 2305843009213693950 = g at hg hm hle
  have h1 : m ≠ 1 := by
    intro e; subst e; omega
  rcases some_prime m ⟨g, by rw [hm, Nat.mul_comm]⟩ h1 with ⟨k, rfl⟩ | ⟨k, rfl⟩ | ⟨k, rfl⟩ | ⟨k, rfl⟩ | ⟨k, rfl⟩ | ⟨k, rfl⟩ | ⟨k, rfl⟩ | ⟨k, rfl⟩ | ⟨k, rfl⟩ | ⟨k, rfl⟩ | ⟨k, rfl⟩ | ⟨k, rfl⟩
  · exact gen_2 (gen_step g 2 k (by rw [hm, Nat.mul_assoc]) 1152921504606846975 (by decide) (by omega) hg)
  · exact gen_3 (gen_step g 3 k (by rw [hm, Nat.mul_assoc]) 768614336404564650 (by decide) (by omega) hg)
  · exact gen_5 (gen_step g 5 k (by rw [hm, Nat.mul_assoc]) 461168601842738790 (by decide) (by omega) hg)
  · exact gen_7 (gen_step g 7 k (by rw [hm, Nat.mul_assoc]) 329406144173384850 (by decide) (by omega) hg)
  · exact gen_11 (gen_step g 11 k (by rw [hm, Nat.mul_assoc]) 209622091746699450 (by decide) (by omega) hg)
  · exact gen_13 (gen_step g 13 k (by rw [hm, Nat.mul_assoc]) 177372539170284150 (by decide) (by omega) hg)
  · exact gen_31 (gen_step g 31 k (by rw [hm, Nat.mul_assoc]) 74382032555280450 (by decide) (by omega) hg)
  · exact gen_41 (gen_step g 41 k (by rw [hm, Nat.mul_assoc]) 56240073395455950 (by decide) (by omega) hg)
  · exact gen_61 (gen_step g 61 k (by rw [hm, Nat.mul_assoc]) 37800705069076950 (by decide) (by omega) hg)
  · exact gen_151 (gen_step g 151 k (by rw [hm, Nat.mul_assoc]) 15270483504726450 (by decide) (by omega) hg)
  · exact gen_331 (gen_step g 331 k (by rw [hm, Nat.mul_assoc]) 6966293079195450 (by decide) (by omega) hg)
  · exact gen_1321 (gen_step g 1321 k (by rw [hm, Nat.mul_assoc]) 1745528394559950 (by decide) (by omega) hg)

theorem gen_pos (i : Nat) (hi : i < 2305843009213693950) : 1 ≤ powP 37 i := by
  refine Nat.pos_of_ne_zero fun h => ?_
  have := powP_add 37 i (2305843009213693950 - i)
  rw [h, show i + (2305843009213693950 - i) = 2305843009213693950 by omega, gen_all] at this
  simp [mulP] at this
theorem gen_apart (i j : Nat) (hij : i < j) (hj : j < 2305843009213693950) : powP 37 i ≠ powP 37 j := by
  intro h
  have e1 := powP_add 37 i (2305843009213693950 - i)
  have e2 := powP_add 37 j (2305843009213693950 - i)
  rw [show i + (2305843009213693950 - i) = 2305843009213693950 by omega, gen_all] at e1
  rw [← h, e1, show j + (2305843009213693950 - i) = 2305843009213693950 + (j - i) by omega, ← powP_add, gen_all, one_mulP, md_powP] at e2
  exact gen_least (j - i) (by omega) (by omega) e2.symm

/-- every number that is not 0 is a power of 37 -/
theorem is_power (a : Nat) (h : a % 2305843009213693951 ≠ 0) : ∃ i, i < 2305843009213693950 ∧ powP 37 i = a % 2305843009213693951 := by
  refine takes_all 2305843009213693950 (powP 37) (fun i hi => ⟨gen_pos i hi, ?_⟩) gen_apart _ (by omega) (by omega)
  have := powP_lt 37 i
  omega

theorem fermat (a : Nat) (h : a % 2305843009213693951 ≠ 0) : powP a 2305843009213693950 = 1 := by
  obtain ⟨i, _, hi⟩ := is_power a h
  rw [← powP_mod, ← hi, ← powP_mul, Nat.mul_comm, powP_mul, gen_all, powP_one_base]

theorem powP_snoc (a n : Nat) : mulP (powP a n) a = powP a (n + 1) := by
  unfold powP mulP; rw [Nat.pow_succ, Nat.mod_mul_mod]
def invP (a : Nat) : Nat := powP a 2305843009213693949
theorem invP_lt (a : Nat) : invP a < 2305843009213693951 := powP_lt _ _
theorem invP_mul (a : Nat) (h : a % 2305843009213693951 ≠ 0) : mulP (invP a) a = 1 := by
  rw [invP, powP_snoc]
  exact fermat a h
theorem invP_pos (a : Nat) (h : a % 2305843009213693951 ≠ 0) : 1 ≤ invP a := by
  refine Nat.pos_of_ne_zero fun e => ?_
  have := invP_mul a h
  rw [e] at this
  simp [mulP] at this
theorem mulP_x0 (x : Nat) : mulP x 0 = 0 := by simp [mulP]
theorem mulP_0x (x : Nat) : mulP 0 x = 0 := by simp [mulP]
theorem mulP_cancel0 (x a b : Nat) (hx : mulP x a = 1) (h : mulP a b = 0) : md b = 0 := by
  have e : mulP x (mulP a b) = md b := by rw [← mulP_assoc, hx, one_mulP]
  rw [← e, h, mulP_x0]
theorem mulP_zero (a b : Nat) : mulP a b = 0 ↔ md a = 0 ∨ md b = 0 := by
  constructor
  · intro h
    by_cases ha : a % 2305843009213693951 = 0
    · exact Or.inl ha
    · exact Or.inr (mulP_cancel0 (invP a) a b (invP_mul a ha) h)
  · rintro (h | h)
    · rw [← mulP_md_left, h, mulP_0x]
    · rw [← mulP_md_right, h, mulP_x0]
/-- there is one number alone whose product with a is 1 -/
theorem inv_one (a x y : Nat) (hx : x < 2305843009213693951) (hy : y < 2305843009213693951) (h1 : mulP x a = 1) (h2 : mulP y a = 1) : x = y := by
  have e : mulP x (mulP a y) = mulP (mulP x a) y := (mulP_assoc x a y).symm
  rw [h1, one_mulP, mulP_comm a y, h2, mulP_one, md_of_lt hx, md_of_lt hy] at e
  exact e
theorem gcd_one (a : Nat) (h : a % 2305843009213693951 ≠ 0) : Nat.gcd 2305843009213693951 (a % 2305843009213693951) = 1 := by
  have hd1 := Nat.gcd_dvd_left 2305843009213693951 (a % 2305843009213693951)
  have hd2 := Nat.gcd_dvd_right 2305843009213693951 (a % 2305843009213693951)
  have hm := invP_mul a h
  rw [mulP_comm, ← mulP_md_left] at hm
  unfold mulP at hm
  have hda : Nat.gcd 2305843009213693951 (a % 2305843009213693951) ∣ md a * invP a := Nat.dvd_trans hd2 (Nat.dvd_mul_right _ _)
  have := (Nat.dvd_mod_iff hd1).2 hda
  rw [hm] at this
  exact Nat.dvd_one.1 this
/- a round of a power by squares -/
theorem powP_sq (s k : Nat) : powP (mulP s s) k = (s * s) ^ k % 2305843009213693951 := by
  unfold mulP; rw [powP_mod]; rfl
theorem pow_even (r s n : Nat) (h : n % 2 = 0) : mulP r (powP (mulP s s) (n / 2)) = mulP r (powP s n) := by
  rw [powP_sq]
  unfold powP
  rw [pow_split s n, h, Nat.pow_zero, Nat.mul_one]
theorem pow_odd (r s n : Nat) (h : n % 2 = 1) : mulP (mulP r s) (powP (mulP s s) (n / 2)) = mulP r (powP s n) := by
  rw [powP_sq]
  unfold powP mulP
  rw [pow_split s n, h, Nat.pow_one, ← Nat.mul_mod, Nat.mul_mod_mod, Nat.mul_assoc, Nat.mul_comm s]
end Go.Proofs.YtjbpnhibgafdmaaDoor.M
