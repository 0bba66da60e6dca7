/-
  Plain arithmetic modulo 2^61 - 1: nothing of the program.
-/
namespace Go.Proofs.YtjbpnhibgafdmaaDoor.M
set_option linter.unusedVariables false
/-- a remainder -/
def md (x : Nat) : Nat := x % 2305843009213693951
def addP (a b : Nat) : Nat := (a + b) % 2305843009213693951
def subP (a b : Nat) : Nat := (a % 2305843009213693951 + 2305843009213693951 - b % 2305843009213693951) % 2305843009213693951
def mulP (a b : Nat) : Nat := a * b % 2305843009213693951
def powP (a n : Nat) : Nat := a ^ n % 2305843009213693951
theorem md_lt (x : Nat) : md x < 2305843009213693951 := Nat.mod_lt _ (by omega)
theorem addP_lt (a b : Nat) : addP a b < 2305843009213693951 := Nat.mod_lt _ (by omega)
theorem subP_lt (a b : Nat) : subP a b < 2305843009213693951 := Nat.mod_lt _ (by omega)
theorem mulP_lt (a b : Nat) : mulP a b < 2305843009213693951 := Nat.mod_lt _ (by omega)
theorem powP_lt (a b : Nat) : powP a b < 2305843009213693951 := Nat.mod_lt _ (by omega)
theorem mulP_mod (a b : Nat) : mulP (md a) (md b) = mulP a b := by
  unfold mulP md; rw [← Nat.mul_mod]
theorem addP_mod (a b : Nat) : addP (md a) (md b) = addP a b := by
  unfold addP md; omega
theorem subP_mod (a b : Nat) : subP (md a) (md b) = subP a b := by
  unfold subP md; omega
/-- the product's upper and lower part: 2^61 is 1 -/
theorem fold61 (n : Nat) (h : n < 5316911983139663491615228241121378304) : (n / 2305843009213693952 + n % 2305843009213693952) % 2305843009213693951 = n % 2305843009213693951 := by omega
theorem prod_lt {a b : Nat} (ha : a < 2305843009213693951) (hb : b < 2305843009213693951) : a * b < 5316911983139663491615228241121378304 := by
  have := Nat.mul_le_mul (Nat.le_of_lt ha) (Nat.le_of_lt hb)
  omega
/- a product, bit by bit: the round -/
theorem div_two_pow (y j : Nat) : y / 2 ^ (j + 1) = y / 2 ^ j / 2 := by rw [Nat.pow_succ, Nat.div_div_eq_div_mul]
theorem bit_even (x y j o : Nat) (h : o = mulP x (y / 2 ^ (j + 1))) (hb : y / 2 ^ j % 2 = 0) : (o + o) % 2305843009213693951 = mulP x (y / 2 ^ j) := by
  rw [div_two_pow] at h
  have e : y / 2 ^ j = 2 * (y / 2 ^ j / 2) := by omega
  rw [e]
  generalize y / 2 ^ j / 2 = q at *
  subst h
  unfold mulP
  rw [show x * (2 * q) = x * q + x * q by rw [Nat.mul_left_comm]; omega]
  omega
theorem bit_odd (x y j o : Nat) (h : o = mulP x (y / 2 ^ (j + 1))) (hb : y / 2 ^ j % 2 = 1) : ((o + o) % 2305843009213693951 + x) % 2305843009213693951 = mulP x (y / 2 ^ j) := by
  rw [div_two_pow] at h
  have e : y / 2 ^ j = 2 * (y / 2 ^ j / 2) + 1 := by omega
  rw [e]
  generalize y / 2 ^ j / 2 = q at *
  subst h
  unfold mulP
  rw [show x * (2 * q + 1) = x * q + x * q + x by rw [Nat.mul_add, Nat.mul_left_comm]; omega]
  omega
/- a power, bit by bit: the round -/
theorem sq_even (a n j o : Nat) (h : o = powP a (n / 2 ^ (j + 1))) (hb : n / 2 ^ j % 2 = 0) : mulP o o = powP a (n / 2 ^ j) := by
  rw [div_two_pow] at h
  have e : n / 2 ^ j = n / 2 ^ j / 2 + n / 2 ^ j / 2 := by omega
  rw [e]
  generalize n / 2 ^ j / 2 = q at *
  subst h
  unfold mulP powP
  rw [← Nat.mul_mod, Nat.pow_add]
theorem sq_odd (a n j o : Nat) (h : o = powP a (n / 2 ^ (j + 1))) (hb : n / 2 ^ j % 2 = 1) : mulP (mulP o o) a = powP a (n / 2 ^ j) := by
  rw [div_two_pow] at h
  have e : n / 2 ^ j = n / 2 ^ j / 2 + n / 2 ^ j / 2 + 1 := by omega
  rw [e]
  generalize n / 2 ^ j / 2 = q at *
  subst h
  unfold mulP powP
  rw [Nat.mod_mul_mod, Nat.pow_succ, Nat.pow_add, ← Nat.mod_mul_mod, ← Nat.mul_mod, Nat.mod_mul_mod]
end Go.Proofs.YtjbpnhibgafdmaaDoor.M
