/-
  What samples come to, and what a vector says: sums, squares, signs. Plain mathematics: nothing of the program.
-/
import Derived.Test.YthaaajepolahfaaTallyN
import Derived.Test.YthaaajepolahfaaWideN
namespace Go.Proofs.Ythaaajepolahfaa
set_option linter.unusedVariables false
namespace Pn

/-- A number that may be below 0, by 2^128. -/
def zN (z : Int) : Nat := (z % 340282366920938463463374607431768211456).toNat
theorem zN_cast (z : Int) : ((zN z : Nat) : Int) = z % 340282366920938463463374607431768211456 := Int.toNat_of_nonneg (Int.emod_nonneg _ (by decide))
theorem zN_lt (z : Int) : zN z < 340282366920938463463374607431768211456 := by have := zN_cast z; omega
theorem zN_mod {z : Int} {n : Nat} (h : (n : Int) % 340282366920938463463374607431768211456 = z % 340282366920938463463374607431768211456) : n % Wd.M = zN z % Wd.M := by
  have h1 := zN_cast z
  unfold Wd.M
  omega
theorem big_nat (n : Nat) : Wd.bigL (zN (n : Int)) = Wd.bigL n := (Wd.bigL_eq (zN_mod rfl)).symm
theorem big_add (a b : Int) : Wd.bigL (zN a + zN b) = Wd.bigL (zN (a + b)) := Wd.bigL_eq (zN_mod (by
  have h1 := zN_cast a
  have h2 := zN_cast b
  omega))
theorem big_mul (a b : Int) : Wd.bigL (zN a * zN b) = Wd.bigL (zN (a * b)) := Wd.bigL_eq (zN_mod (by
  rw [Int.natCast_mul, zN_cast, zN_cast, ← Int.mul_emod]))
theorem big_sq (q c : Int) : Wd.bigL (zN q + zN c * zN c) = Wd.bigL (zN (q + c * c)) := Wd.bigL_eq (zN_mod (by
  have h1 := zN_cast q
  have h2 : ((zN c * zN c : Nat) : Int) % 340282366920938463463374607431768211456 = (c * c) % 340282366920938463463374607431768211456 := by rw [Int.natCast_mul, zN_cast, ← Int.mul_emod]
  omega))
theorem zN_neg {z : Int} (h : z < 0) (h1 : -170141183460469231731687303715884105728 ≤ z) : Wd.M - zN z = z.natAbs ∧ zN z ≤ Wd.M := by
  have h2 := zN_cast z
  unfold Wd.M
  omega
theorem zN_pos {z : Int} (h : 0 ≤ z) (h1 : z < 170141183460469231731687303715884105728) : zN z = z.natAbs := by
  have h2 := zN_cast z
  omega
/-- The sign is the topmost bit. -/
theorem sign_top {z : Int} (h0 : -170141183460469231731687303715884105728 ≤ z) (h1 : z < 170141183460469231731687303715884105728) : (32768 ≤ Wd.digit (zN z) 7) ↔ z < 0 := by
  have h2 := zN_cast z
  unfold Wd.digit
  rw [show (65536 : Nat) ^ 7 = 5192296858534827628530496329220096 from rfl]
  omega

/-- All samples together, and their squares. -/
def sumZ (lo hi : Int) : List Int → Int
  | [] => 0
  | x :: r => clampZ lo hi x + sumZ lo hi r
def sqZ (lo hi : Int) : List Int → Int
  | [] => 0
  | x :: r => clampZ lo hi x * clampZ lo hi x + sqZ lo hi r
theorem sumZ_snoc (lo hi : Int) : ∀ (xs : List Int) (x : Int), sumZ lo hi (xs ++ [x]) = sumZ lo hi xs + clampZ lo hi x
  | [], x => by simp [sumZ]
  | y :: r, x => by rw [List.cons_append, sumZ, sumZ, sumZ_snoc lo hi r x]; omega
theorem sqZ_snoc (lo hi : Int) : ∀ (xs : List Int) (x : Int), sqZ lo hi (xs ++ [x]) = sqZ lo hi xs + clampZ lo hi x * clampZ lo hi x
  | [], x => by simp [sqZ]
  | y :: r, x => by rw [List.cons_append, sqZ, sqZ, sqZ_snoc lo hi r x]; omega
theorem sumZ_bound {lo hi : Int} (h : lo ≤ hi) (h1 : -1099511627776 ≤ lo) (h2 : hi ≤ 1099511627776) : ∀ xs : List Int, -(1099511627776 * (xs.length : Int)) ≤ sumZ lo hi xs ∧ sumZ lo hi xs ≤ 1099511627776 * (xs.length : Int)
  | [] => by simp [sumZ]
  | x :: r => by
    have h3 := sumZ_bound h h1 h2 r
    have h4 := clampZ_in (x := x) h
    rw [sumZ, List.length_cons]
    omega

/-- Numbers of bits, the lowest first, times their powers of two. -/
def horN : List Nat → Nat
  | [] => 0
  | x :: r => x + 2 * horN r
theorem horN_drop (l : List Nat) {i : Nat} (h : i < l.length) : horN (l.drop i) = l.getD i 0 + 2 * horN (l.drop (i + 1)) := by
  rw [List.drop_eq_getElem_cons h, horN]
  simp [List.getD, h]
theorem horN_far (l : List Nat) {i : Nat} (h : l.length ≤ i) : horN (l.drop i) = 0 := by rw [List.drop_eq_nil_of_le h]; rfl
theorem horN_add (f g : Nat → Nat) : ∀ l : List Nat, horN (l.map fun k => f k + g k) = horN (l.map f) + horN (l.map g)
  | [] => rfl
  | k :: l => by simp only [List.map_cons, horN, horN_add f g l]; omega
theorem horN_mul (t : Nat) (f : Nat → Nat) : ∀ l : List Nat, horN (l.map fun k => t * f k) = t * horN (l.map f)
  | [] => rfl
  | k :: l => by simp only [List.map_cons, horN, horN_mul t f l, Nat.mul_add]; rw [Nat.mul_left_comm]
theorem horN_zero : ∀ l : List Nat, horN (l.map fun _ => 0) = 0
  | [] => rfl
  | k :: l => by simp only [List.map_cons, horN, horN_zero l]
theorem horN_bits : ∀ (b p s : Nat), horN ((List.range' s b).map fun k => bit p k) = p / 2 ^ s % 2 ^ b
  | 0, p, s => by simp [horN, Nat.mod_one]
  | b + 1, p, s => by
    rw [List.range'_succ, List.map_cons, horN, horN_bits b p (s + 1)]
    unfold bit
    rw [Nat.pow_succ 2 s, ← Nat.div_div_eq_div_mul]
    generalize p / 2 ^ s = q
    rw [Nat.pow_succ, Nat.mul_comm (2 ^ b) 2, Nat.mod_mul]
theorem horN_place {b p : Nat} (h : p < 2 ^ b) : horN ((List.range b).map fun k => bit p k) = p := by
  rw [List.range_eq_range', horN_bits b p 0, Nat.pow_zero, Nat.div_one, Nat.mod_eq_of_lt h]
theorem horN_bound : ∀ (l : List Nat), (∀ x ∈ l, x < 4294967296) → horN l + 4294967296 ≤ 4294967296 * 2 ^ l.length
  | [], _ => by simp [horN]
  | x :: r, h => by
    have h1 := horN_bound r fun y hy => h y (List.mem_cons_of_mem _ hy)
    have h2 := h x (List.mem_cons_self ..)
    rw [horN, List.length_cons, Nat.pow_succ]
    omega

def sumN : List Nat → Nat
  | [] => 0
  | x :: r => x + sumN r
theorem sumN_take (l : List Nat) {i : Nat} (h : i < l.length) : sumN (l.take (i + 1)) = sumN (l.take i) + l.getD i 0 := by
  induction l generalizing i with
  | nil => simp at h
  | cons x r ih =>
    cases i with
    | zero => simp [sumN]
    | succ i => simp only [List.take_succ_cons, sumN, ih (i := i) (by simpa using h)]; simp; omega
theorem sumN_bound : ∀ l : List Nat, (∀ x ∈ l, x < 4294967296) → sumN l ≤ 4294967296 * l.length
  | [], _ => by simp [sumN]
  | x :: r, h => by
    have h1 := sumN_bound r fun y hy => h y (List.mem_cons_of_mem _ hy)
    have h2 := h x (List.mem_cons_self ..)
    rw [sumN, List.length_cons]
    omega

/-- Of a vector (n edges, b bits): how many samples, the places' sum, the squares'. -/
def cnV (n : Nat) (v : List Nat) : Nat := v.getD (n + 1) 0
def bitsV (n : Nat) (v : List Nat) : List Nat := v.drop (n + 2)
def plV (n b : Nat) (v : List Nat) : Nat := horN ((bitsV n v).take b)
def sqV (n b : Nat) (v : List Nat) : Nat := horN ((bitsV n v).drop b)
/-- Is its head at odds with itself? -/
def headV (n : Nat) (v : List Nat) : Bool := decide (sumN (v.take (n + 1)) ≠ cnV n v) || (bitsV n v).any fun x => decide (cnV n v < x)
def dsum (lo : Int) (n b : Nat) (v : List Nat) : Int := (plV n b v : Int) + (cnV n v : Int) * lo
def dsq (lo : Int) (n b : Nat) (v : List Nat) : Int := (sqV n b v : Int) + (lo + lo) * (plV n b v : Int) + (cnV n v : Int) * (lo * lo)
def binsV (n : Nat) (v : List Nat) : List Int := (v.take (n + 1)).map fun (x : Nat) => (x : Int)

/-- The vector of some samples, so many times over. -/
def vecM (t : Nat) (lo hi : Int) (es : List Int) (b : Nat) (xs : List Int) : List Nat := (List.range (lenN es b)).map fun j => t * tot lo hi es b j xs
theorem vecM_one (lo hi : Int) (es : List Int) (b : Nat) (xs : List Int) (h : xs.length < 4294967296) : vecM 1 lo hi es b xs = vecT lo hi es b xs := by
  unfold vecM vecT
  apply List.map_congr_left
  intro j _
  have := tot_le lo hi es b j xs
  rw [Nat.one_mul, Nat.mod_eq_of_lt (by omega)]
theorem vecM_length (t : Nat) (lo hi : Int) (es : List Int) (b : Nat) (xs : List Int) : (vecM t lo hi es b xs).length = lenN es b := by simp [vecM]
theorem vecM_get (t : Nat) (lo hi : Int) (es : List Int) (b : Nat) (xs : List Int) {j : Nat} (hj : j < lenN es b) : (vecM t lo hi es b xs).getD j 0 = t * tot lo hi es b j xs := by simp [vecM, List.getD, hj]

section
variable {t : Nat} {lo hi : Int} {es : List Int} {b : Nat} {xs : List Int}
theorem cnV_M : cnV es.length (vecM t lo hi es b xs) = t * xs.length := by
  unfold cnV
  rw [vecM_get t lo hi es b xs (by unfold lenN; omega), tot_count]
theorem sumN_M : ∀ m, m ≤ es.length + 1 → sumN ((vecM t lo hi es b xs).take m) = t * sumTo lo hi es b xs m
  | 0, _ => by simp [sumN, sumTo]
  | m + 1, h => by
    rw [sumN_take _ (by rw [vecM_length]; unfold lenN; omega), sumN_M m (by omega), vecM_get t lo hi es b xs (by unfold lenN; omega), sumTo, Nat.mul_add]
theorem head_M : headV es.length (vecM t lo hi es b xs) = false := by
  unfold headV
  rw [sumN_M _ (Nat.le_refl _), sumTo_all, cnV_M]
  simp only [ne_eq, not_true_eq_false, decide_false, Bool.false_or]
  rw [List.any_eq_false]
  intro x hx
  obtain ⟨j, _, rfl⟩ := List.mem_map.1 (List.mem_of_mem_drop hx)
  have := Nat.mul_le_mul_left t (tot_le lo hi es b j xs)
  simpa using this
theorem bits_M : bitsV es.length (vecM t lo hi es b xs) = (List.range (3 * b)).map fun k => t * tot lo hi es b (es.length + 2 + k) xs := by
  unfold bitsV vecM
  apply List.ext_getElem?
  intro j
  rw [List.getElem?_drop, List.getElem?_map, List.getElem?_map]
  by_cases hj : j < 3 * b
  · rw [List.getElem?_range (by unfold lenN; omega), List.getElem?_range hj]; rfl
  · rw [List.getElem?_eq_none (by simp [lenN]; omega), List.getElem?_eq_none (by simp; omega)]; rfl
def plSum (lo hi : Int) : List Int → Nat
  | [] => 0
  | x :: r => plN lo hi x + plSum lo hi r
def sqSum (lo hi : Int) : List Int → Nat
  | [] => 0
  | x :: r => plN lo hi x * plN lo hi x + sqSum lo hi r
theorem horN_tot (f : Nat → Nat) (g : Int → Nat) (l : List Nat) (hf : ∀ x : Int, horN (l.map fun k => inc lo hi es b (f k) x) = g x) : ∀ xs : List Int, horN (l.map fun k => tot lo hi es b (f k) xs) = (xs.map g).sum
  | [] => by simp only [tot, horN_zero]; rfl
  | x :: r => by
    have e : (l.map fun k => tot lo hi es b (f k) (x :: r)) = l.map fun k => inc lo hi es b (f k) x + tot lo hi es b (f k) r := by simp only [tot]
    rw [e, horN_add, horN_tot f g l hf r, hf x]
    simp
theorem plSum_eq : ∀ xs : List Int, (xs.map (plN lo hi)).sum = plSum lo hi xs
  | [] => rfl
  | x :: r => by simp [plSum, plSum_eq r]
theorem sqSum_eq : ∀ xs : List Int, (xs.map fun x => plN lo hi x * plN lo hi x).sum = sqSum lo hi xs
  | [] => rfl
  | x :: r => by simp [sqSum, sqSum_eq r]
theorem plV_M (hb : ∀ x : Int, plN lo hi x < 2 ^ b) : plV es.length b (vecM t lo hi es b xs) = t * plSum lo hi xs := by
  unfold plV
  rw [bits_M, ← List.map_take, List.take_range, Nat.min_eq_left (by omega), horN_mul t (fun k => tot lo hi es b (es.length + 2 + k) xs), horN_tot (fun k => es.length + 2 + k) (plN lo hi) (List.range b) ?_ xs, plSum_eq]
  intro x
  rw [← horN_place (hb x)]
  congr 1
  apply List.map_congr_left
  intro k hk
  exact inc_bit lo hi es x (List.mem_range.1 hk)
theorem sqV_M (hb : ∀ x : Int, plN lo hi x < 2 ^ b) : sqV es.length b (vecM t lo hi es b xs) = t * sqSum lo hi xs := by
  unfold sqV
  have e : ((List.range (3 * b)).map fun k => t * tot lo hi es b (es.length + 2 + k) xs).drop b = (List.range (2 * b)).map fun k => t * tot lo hi es b (es.length + 2 + b + k) xs := by
    apply List.ext_getElem?
    intro j
    rw [List.getElem?_drop, List.getElem?_map, List.getElem?_map]
    by_cases hj : j < 2 * b
    · rw [List.getElem?_range (by omega), List.getElem?_range hj]; simp [Nat.add_assoc]
    · rw [List.getElem?_eq_none (by simp; omega), List.getElem?_eq_none (by simp; omega)]; rfl
  rw [bits_M, e, horN_mul t (fun k => tot lo hi es b (es.length + 2 + b + k) xs), horN_tot (fun k => es.length + 2 + b + k) (fun x => plN lo hi x * plN lo hi x) (List.range (2 * b)) ?_ xs, sqSum_eq]
  intro x
  have h2 : plN lo hi x * plN lo hi x < 2 ^ (2 * b) := by
    rw [show 2 * b = b + b by omega, Nat.pow_add]
    exact Nat.mul_lt_mul'' (hb x) (hb x)
  rw [← horN_place h2]
  congr 1
  apply List.map_congr_left
  intro k _
  exact inc_square lo hi es x
theorem plSum_cast (h : lo ≤ hi) : ∀ xs : List Int, (plSum lo hi xs : Int) + (xs.length : Int) * lo = sumZ lo hi xs
  | [] => by simp [plSum, sumZ]
  | x :: r => by
    have h1 := plSum_cast h r
    have h2 := clampZ_in (x := x) h
    have h3 : ((plN lo hi x : Nat) : Int) = clampZ lo hi x - lo := by unfold plN; omega
    rw [plSum, sumZ, List.length_cons]
    rw [show ((r.length + 1 : Nat) : Int) * lo = (r.length : Int) * lo + lo by rw [Int.natCast_add, Int.add_mul]; simp]
    omega
theorem sqSum_cast (h : lo ≤ hi) : ∀ xs : List Int, (sqSum lo hi xs : Int) + (lo + lo) * (plSum lo hi xs : Int) + (xs.length : Int) * (lo * lo) = sqZ lo hi xs
  | [] => by simp [plSum, sqSum, sqZ]
  | x :: r => by
    have h1 := sqSum_cast h r
    have h2 := clampZ_in (x := x) h
    have h3 : ((plN lo hi x : Nat) : Int) = clampZ lo hi x - lo := by unfold plN; omega
    rw [sqSum, plSum, sqZ, List.length_cons, ← h1]
    simp only [Int.natCast_add, Int.natCast_mul, h3]
    generalize clampZ lo hi x = c
    grind
theorem dsum_M (h : lo ≤ hi) (hb : ∀ x : Int, plN lo hi x < 2 ^ b) : dsum lo es.length b (vecM t lo hi es b xs) = (t : Int) * sumZ lo hi xs := by
  unfold dsum
  rw [plV_M hb, cnV_M, ← plSum_cast h xs]
  grind
theorem dsq_M (h : lo ≤ hi) (hb : ∀ x : Int, plN lo hi x < 2 ^ b) : dsq lo es.length b (vecM t lo hi es b xs) = (t : Int) * sqZ lo hi xs := by
  unfold dsq
  rw [plV_M hb, cnV_M, sqV_M hb, ← sqSum_cast h xs]
  grind
theorem tot_bin {j : Nat} (hj : j ≤ es.length) : ∀ xs : List Int, tot lo hi es b j xs = xs.countP fun x => binX lo hi es x == j
  | [] => rfl
  | x :: r => by
    rw [tot, tot_bin hj r, List.countP_cons]
    unfold inc
    rw [if_pos hj]
    by_cases h : binX lo hi es x = j <;> simp [h] <;> omega
theorem bins_M : binsV es.length (vecM 1 lo hi es b xs) = cntL lo hi es xs := by
  unfold binsV vecM cntL
  rw [← List.map_take, List.take_range, Nat.min_eq_left (by unfold lenN; omega), List.map_map]
  apply List.map_congr_left
  intro j hj
  have hj := List.mem_range.1 hj
  simp only [Function.comp, Nat.one_mul, tot_bin (show j ≤ es.length by omega)]
end
end Pn
end Go.Proofs.Ythaaajepolahfaa
