/-
  MgZ: 2 parts, one behind the other; what each proves, and under which conditions, its own heading says.
-/
import Derived.Test.YtjbpnhibgafdmaaDoorMaskC

/-
  Vectors modulo 2^32 as whole numbers place by place; all masks of two go away in a sum. Nothing of the program.
-/
namespace Go.Proofs.YtjbpnhibgafdmaaDoor
open Go.RowKit Cha M Vec Sl Mk
set_option linter.unusedVariables false
namespace Mz

/-- The vector of whole numbers, each by 2^32. -/
def vecZ (n : Nat) (z : Nat → Int) : List Nat := (List.range n).map fun k => (z k % 4294967296).toNat
/-- A vector's whole numbers. -/
def ofV (xs : List Nat) (k : Nat) : Int := (xs.getD k 0 : Nat)
theorem vecZ_length (n : Nat) (z : Nat → Int) : (vecZ n z).length = n := by simp [vecZ]
theorem vecZ_get {n k : Nat} (z : Nat → Int) (h : k < n) : (vecZ n z)[k]? = some (z k % 4294967296).toNat := by simp [vecZ, h]
theorem vecZ_ext {n : Nat} {z z' : Nat → Int} (h : ∀ k, k < n → z k % 4294967296 = z' k % 4294967296) : vecZ n z = vecZ n z' := by
  unfold vecZ
  apply List.map_congr_left
  intro k hk
  rw [h k (List.mem_range.1 hk)]
theorem vecZ_of {n : Nat} {xs : List Nat} (hl : xs.length = n) (hb : ∀ x ∈ xs, x < 4294967296) : xs = vecZ n (ofV xs) := by
  apply List.ext_getElem?
  intro k
  by_cases hk : k < n
  · rw [vecZ_get _ hk, List.getElem?_eq_getElem (by omega)]
    have h1 := hb xs[k] (List.getElem_mem (by omega))
    unfold ofV
    rw [List.getD_eq_getElem?_getD, List.getElem?_eq_getElem (by omega), Option.getD_some]
    congr 1
    omega
  · rw [List.getElem?_eq_none (by omega), List.getElem?_eq_none (by rw [vecZ_length]; omega)]
theorem zip_get {f : Nat → Nat → Nat} {n k : Nat} {z z' : Nat → Int} (hk : k < n) : (List.zipWith f (vecZ n z) (vecZ n z'))[k]? = some (f (z k % 4294967296).toNat (z' k % 4294967296).toNat) := by
  simp [List.getElem?_zipWith, vecZ_get _ hk]
theorem add_one (a b : Int) : add32 (a % 4294967296).toNat (b % 4294967296).toNat = ((a + b) % 4294967296).toNat := by
  have h : ((add32 (a % 4294967296).toNat (b % 4294967296).toNat : Nat) : Int) = (a + b) % 4294967296 := by
    rw [← add32_int, Int.toNat_of_nonneg (Int.emod_nonneg _ (by decide)), Int.toNat_of_nonneg (Int.emod_nonneg _ (by decide)), ← Int.add_emod]
  omega
theorem sub_one (a b : Int) : sub32 (a % 4294967296).toNat (b % 4294967296).toNat = ((a - b) % 4294967296).toNat := by
  have hb : (b % 4294967296).toNat < 4294967296 := by have := Int.emod_lt_of_pos b (show (0 : Int) < 4294967296 by decide); omega
  have h : ((sub32 (a % 4294967296).toNat (b % 4294967296).toNat : Nat) : Int) = (a - b) % 4294967296 := by
    rw [← sub32_int _ _ hb, Int.toNat_of_nonneg (Int.emod_nonneg _ (by decide)), Int.toNat_of_nonneg (Int.emod_nonneg _ (by decide)), ← Int.sub_emod]
  omega
theorem zip_add {n : Nat} (z z' : Nat → Int) : List.zipWith add32 (vecZ n z) (vecZ n z') = vecZ n fun k => z k + z' k := by
  apply List.ext_getElem?
  intro k
  by_cases hk : k < n
  · rw [zip_get hk, vecZ_get _ hk, add_one]
  · rw [List.getElem?_eq_none (by rw [List.length_zipWith, vecZ_length, vecZ_length]; omega), List.getElem?_eq_none (by rw [vecZ_length]; omega)]
theorem zip_sub {n : Nat} (z z' : Nat → Int) : List.zipWith sub32 (vecZ n z) (vecZ n z') = vecZ n fun k => z k - z' k := by
  apply List.ext_getElem?
  intro k
  by_cases hk : k < n
  · rw [zip_get hk, vecZ_get _ hk, sub_one]
  · rw [List.getElem?_eq_none (by rw [List.length_zipWith, vecZ_length, vecZ_length]; omega), List.getElem?_eq_none (by rw [vecZ_length]; omega)]
theorem zero_vec (n : Nat) : List.replicate n 0 = vecZ n fun _ => 0 := by
  unfold vecZ
  apply List.ext_getElem?
  intro k
  by_cases hk : k < n
  · simp [hk]
  · rw [List.getElem?_eq_none (by simp; omega), List.getElem?_eq_none (by simp; omega)]

/-- What a card adds to the masks of a donor. -/
def termZ (who : Int) (s n : Nat) (turned : Bool) (c : Crd) (k : Nat) : Int :=
  if c.who = who then 0 else if (decide (who < c.who) != turned) = true then ofV (pairV (powP c.key s) n) k else - ofV (pairV (powP c.key s) n) k
theorem mskS_Z (who : Int) (s n : Nat) (turned : Bool) (c : Crd) (z : Nat → Int) : mskS who s n turned (vecZ n z) c = vecZ n fun k => z k + termZ who s n turned c k := by
  unfold mskS termZ
  by_cases h1 : c.who = who
  · rw [if_pos h1]
    refine vecZ_ext fun k _ => ?_
    rw [if_pos h1, Int.add_zero]
  · rw [if_neg h1]
    have hp := vecZ_of (pairV_length (powP c.key s) n) (pairV_lt _ _)
    unfold sgn
    by_cases h2 : (decide (who < c.who) != turned) = true
    · rw [if_pos h2]
      conv => lhs; rw [hp]
      rw [zip_add]
      refine vecZ_ext fun k _ => ?_
      rw [if_neg h1, if_pos h2]
    · rw [if_neg h2]
      conv => lhs; rw [hp]
      rw [zip_sub]
      refine vecZ_ext fun k _ => ?_
      rw [if_neg h1, if_neg h2]
      rfl
/-- The masks of a donor, as whole numbers. -/
def mskZ (who : Int) (s n : Nat) (turned : Bool) (l : List Crd) (k : Nat) : Int := (l.map fun c => termZ who s n turned c k).sum
theorem foldl_Z (who : Int) (s n : Nat) (turned : Bool) : ∀ (l : List Crd) (z : Nat → Int), l.foldl (mskS who s n turned) (vecZ n z) = vecZ n fun k => z k + mskZ who s n turned l k
  | [], z => by
    rw [List.foldl_nil]
    refine vecZ_ext fun k _ => ?_
    simp [mskZ]
  | c :: r, z => by
    rw [List.foldl_cons, mskS_Z, foldl_Z who s n turned r]
    refine vecZ_ext fun k _ => ?_
    simp only [mskZ, List.map_cons, List.sum_cons]
    rw [Int.add_assoc]
theorem mskL_Z (who : Int) (s n : Nat) (turned : Bool) (l : List Crd) : mskL who s n turned l = vecZ n (mskZ who s n turned l) := by
  unfold mskL
  rw [zero_vec, foldl_Z]
  refine vecZ_ext fun k _ => ?_
  rw [Int.zero_add]
/-- What is hidden, its own mask taken away again. -/
theorem hid_own {xs ow : List Nat} {n : Nat} (hx : xs.length = n) (xb : ∀ x ∈ xs, x < 4294967296) (ho : ow.length = n) (ob : ∀ x ∈ ow, x < 4294967296) (z : Nat → Int) :
    List.zipWith sub32 (hidV xs ow (vecZ n z)) ow = vecZ n fun k => ofV xs k + z k := by
  unfold hidV
  rw [vecZ_of hx xb, vecZ_of ho ob, zip_add, zip_add, zip_sub]
  refine vecZ_ext fun k hk => ?_
  rw [← vecZ_of hx xb]
  congr 1
  omega

/-- The sum over a list. -/
def S (L : List Nat) (f : Nat → Int) : Int := (L.map f).sum
theorem S_nil (f : Nat → Int) : S [] f = 0 := rfl
theorem S_cons (i : Nat) (L : List Nat) (f : Nat → Int) : S (i :: L) f = f i + S L f := by simp [S]
theorem S_add : ∀ (L : List Nat) (f g : Nat → Int), S L (fun i => f i + g i) = S L f + S L g
  | [], f, g => by simp [S]
  | i :: L, f, g => by rw [S_cons, S_cons, S_cons, S_add L f g]; omega
theorem S_congr {L : List Nat} {f g : Nat → Int} (h : ∀ i ∈ L, f i = g i) : S L f = S L g := by
  unfold S
  rw [List.map_congr_left h]
theorem S_zero (L : List Nat) : S L (fun _ => 0) = 0 := by
  induction L with
  | nil => rfl
  | cons i L ih => rw [S_cons, ih]; rfl
theorem S_append (L M : List Nat) (f : Nat → Int) : S (L ++ M) f = S L f + S M f := by simp [S]
/-- What is turned round goes away. -/
theorem anti (T : Nat → Nat → Int) (hT : ∀ i j, T i j = - T j i) : ∀ L : List Nat, S L (fun i => S L (fun j => T i j)) = 0
  | [] => rfl
  | a :: L => by
    have ih := anti T hT L
    have h0 : T a a = 0 := by have := hT a a; omega
    rw [S_cons, S_cons, h0]
    have e : S L (fun i => S (a :: L) (fun j => T i j)) = S L (fun i => T i a) + S L (fun i => S L (fun j => T i j)) := by
      rw [← S_add]
      exact S_congr fun i _ => by rw [S_cons]
    rw [e, ih]
    have e2 : S L (fun j => T a j) + S L (fun i => T i a) = 0 := by
      rw [← S_add, ← S_zero L]
      exact S_congr fun i _ => by rw [hT a i]; omega
    omega

/-- The donors' cards: the i-th has the number i + 1. -/
def crds (ss : List Nat) : List Crd := (List.range ss.length).map fun i : Nat => ⟨(i : Int) + 1, 0, powP 37 (ss.getD i 0)⟩
theorem crds_length (ss : List Nat) : (crds ss).length = ss.length := by simp [crds]
theorem crds_get {ss : List Nat} {i : Nat} (h : i < ss.length) : (crds ss)[i]? = some ⟨(i : Int) + 1, 0, powP 37 (ss.getD i 0)⟩ := by simp [crds, h]
/-- All but one, or all. -/
def others (n lost : Nat) : List Nat := (List.range n).filter fun i => i != lost
/-- What one donor's mask with another one is, as it is hidden. -/
def T (ss : List Nat) (n k i j : Nat) : Int := termZ ((i : Int) + 1) (ss.getD i 0) n false ⟨(j : Int) + 1, 0, powP 37 (ss.getD j 0)⟩ k
theorem T_anti (ss : List Nat) (n k i j : Nat) : T ss n k i j = - T ss n k j i := by
  unfold T termZ
  have e : powP (powP 37 (ss.getD j 0)) (ss.getD i 0) = powP (powP 37 (ss.getD i 0)) (ss.getD j 0) := by rw [← powP_mul, ← powP_mul, Nat.mul_comm]
  simp only [e]
  rcases Nat.lt_trichotomy i j with h | h | h
  · rw [if_neg (show ¬ ((j : Int) + 1 = (i : Int) + 1) by omega), if_neg (show ¬ ((i : Int) + 1 = (j : Int) + 1) by omega)]
    rw [decide_eq_true (show (i : Int) + 1 < (j : Int) + 1 by omega), decide_eq_false (show ¬ ((j : Int) + 1 < (i : Int) + 1) by omega)]
    simp
  · subst h
    simp
  · rw [if_neg (show ¬ ((j : Int) + 1 = (i : Int) + 1) by omega), if_neg (show ¬ ((i : Int) + 1 = (j : Int) + 1) by omega)]
    rw [decide_eq_false (show ¬ ((i : Int) + 1 < (j : Int) + 1) by omega), decide_eq_true (show (j : Int) + 1 < (i : Int) + 1 by omega)]
    simp
/-- Turned the other way round. -/
theorem T_turned (ss : List Nat) (n k i j : Nat) : termZ ((i : Int) + 1) (ss.getD i 0) n true ⟨(j : Int) + 1, 0, powP 37 (ss.getD j 0)⟩ k = T ss n k j i := by
  rw [T_anti]
  unfold T termZ
  rcases Nat.lt_trichotomy i j with h | h | h
  · rw [if_neg (show ¬ ((j : Int) + 1 = (i : Int) + 1) by omega), if_neg (show ¬ ((j : Int) + 1 = (i : Int) + 1) by omega)]
    rw [decide_eq_true (show (i : Int) + 1 < (j : Int) + 1 by omega)]
    simp
  · subst h
    simp
  · rw [if_neg (show ¬ ((j : Int) + 1 = (i : Int) + 1) by omega), if_neg (show ¬ ((j : Int) + 1 = (i : Int) + 1) by omega)]
    rw [decide_eq_false (show ¬ ((i : Int) + 1 < (j : Int) + 1) by omega)]
    simp
theorem mskZ_crds (ss : List Nat) (n k i : Nat) : mskZ ((i : Int) + 1) (ss.getD i 0) n false (crds ss) k = S (List.range ss.length) fun j => T ss n k i j := by
  unfold mskZ crds S
  rw [List.map_map]
  rfl
/-- Those that are left when the lost one's card is gone. -/
theorem S_split (N lost : Nat) (f : Nat → Int) (h : lost < N) : S (List.range N) f = S (others N lost) f + f lost := by
  induction N with
  | zero => omega
  | succ N ih =>
    unfold others
    rw [List.range_succ, S_append, List.filter_append, S_append]
    by_cases e : lost = N
    · subst e
      have e1 : (List.range lost).filter (fun i => i != lost) = List.range lost := by
        rw [List.filter_eq_self]
        intro i hi
        have := List.mem_range.1 hi
        simp; omega
      rw [e1]
      simp [S]
    · have := ih (by omega)
      unfold others at this
      rw [this]
      have e2 : (N != lost) = true := by simp; omega
      simp [S, e2]
      omega
theorem S_none (N lost : Nat) (f : Nat → Int) (h : N ≤ lost) : S (others N lost) f = S (List.range N) f := by
  unfold others
  rw [List.filter_eq_self.2]
  intro i hi
  have := List.mem_range.1 hi
  simp; omega
/-- All masks of two are gone, but those with the one that is lost. -/
theorem goes (ss : List Nat) (n k lost : Nat) : S (others ss.length lost) (fun i : Nat => mskZ ((i : Int) + 1) (ss.getD i 0) n false (crds ss) k) = if lost < ss.length then S (others ss.length lost) fun i => T ss n k i lost else 0 := by
  have e : S (others ss.length lost) (fun i : Nat => mskZ ((i : Int) + 1) (ss.getD i 0) n false (crds ss) k) = S (others ss.length lost) (fun i => S (List.range ss.length) fun j => T ss n k i j) := S_congr fun i _ => mskZ_crds ss n k i
  rw [e]
  by_cases h : lost < ss.length
  · rw [if_pos h]
    have e2 : S (others ss.length lost) (fun i => S (List.range ss.length) fun j => T ss n k i j) = S (others ss.length lost) (fun i => S (others ss.length lost) (fun j => T ss n k i j) + T ss n k i lost) := S_congr fun i _ => S_split _ _ _ h
    rw [e2, S_add, anti (T ss n k) (T_anti ss n k), Int.zero_add]
  · rw [if_neg h]
    have e2 : S (others ss.length lost) (fun i => S (List.range ss.length) fun j => T ss n k i j) = S (others ss.length lost) (fun i => S (others ss.length lost) (fun j => T ss n k i j)) := S_congr fun i _ => (S_none _ _ _ (by omega)).symm
    rw [e2, anti (T ss n k) (T_anti ss n k)]
/-- The cards of the others. -/
def rest (ss : List Nat) (lost : Nat) : List Crd := (crds ss).take lost ++ (crds ss).drop (lost + 1)
theorem rest_eq (ss : List Nat) {lost : Nat} (h : lost < ss.length) : rest ss lost = (others ss.length lost).map fun j : Nat => (⟨(j : Int) + 1, 0, powP 37 (ss.getD j 0)⟩ : Crd) := by
  unfold rest crds others
  rw [← List.map_take, ← List.map_drop, ← List.map_append]
  congr 1
  have e : List.range ss.length = List.range lost ++ lost :: (List.range (ss.length - (lost + 1))).map (fun i => lost + 1 + i) := by
    rw [show ss.length = lost + 1 + (ss.length - (lost + 1)) by omega, List.range_add, List.range_succ, List.append_assoc]
    simp
  have l1 : (List.range lost).length = lost := List.length_range
  rw [e, List.take_append_of_le_length (by rw [l1]; exact Nat.le_refl _), List.take_of_length_le (by rw [l1]; exact Nat.le_refl _), List.filter_append]
  congr 1
  · symm
    rw [List.filter_eq_self]
    intro i hi
    have := List.mem_range.1 hi
    simp; omega
  · rw [List.drop_append, l1, List.drop_eq_nil_of_le (by rw [l1]; omega), List.nil_append, show lost + 1 - lost = 1 by omega, List.drop_succ_cons, List.drop_zero, List.filter_cons, if_neg (by simp)]
    symm
    rw [List.filter_eq_self]
    intro i hi
    obtain ⟨j, _, rfl⟩ := List.mem_map.1 hi
    simp; omega
/-- What is left of the lost one's masks. -/
theorem left_Z (ss : List Nat) (n k : Nat) {lost : Nat} (h : lost < ss.length) : mskZ ((lost : Int) + 1) (ss.getD lost 0) n true (rest ss lost) k = S (others ss.length lost) fun i => T ss n k i lost := by
  rw [rest_eq ss h]
  unfold mskZ S
  rw [List.map_map]
  congr 1
  apply List.map_congr_left
  intro j _
  exact T_turned ss n k lost j
end Mz
end Go.Proofs.YtjbpnhibgafdmaaDoor

/-
  What MaskGoes wants of cards: donors rise, no key is bad; the sums so far.
-/
namespace Go.Proofs.YtjbpnhibgafdmaaDoor
open Go.RowKit Cha M Vec Sl Mk
set_option linter.unusedVariables false
namespace Mz

/-- The secrets may be, and their public numbers, too. -/
def Fine (ss : List Nat) (i : Nat) : Prop := ∀ j, j < i → ∃ s, ss[j]? = some s ∧ 1 ≤ s ∧ s ≤ 2305843009213693949 ∧ goodP (powP 37 s) = true
/-- The cards of some donors. -/
def crdsOf (ss L : List Nat) : List Crd := L.map fun j : Nat => (⟨(j : Int) + 1, 0, powP 37 (ss.getD j 0)⟩ : Crd)
theorem crds_of (ss : List Nat) : crds ss = crdsOf ss (List.range ss.length) := rfl
theorem crdsOf_ok (ss L : List Nat) (hL : ∀ j ∈ L, j < 64) : CrdOk (crdsOf ss L) := by
  intro x hx
  obtain ⟨j, hj, rfl⟩ := List.mem_map.1 hx
  have := hL j hj
  have h2 := powP_lt 37 (ss.getD j 0)
  refine ⟨?_, ?_, ?_, ?_⟩ <;> dsimp only <;> omega
theorem crdsOf_rise (ss L : List Nat) (hp : L.Pairwise (· < ·)) (hL : ∀ j ∈ L, j < 64) : riseB (crdsOf ss L) = true := by
  unfold riseB riseTo
  rw [List.all_eq_true]
  intro j hj
  have hjl : j < L.length := by
    have := List.mem_range.1 hj
    simpa [crdsOf] using this
  have e : ∀ q (h : q < L.length), whoAt (crdsOf ss L) q = (L[q] : Int) + 1 := fun q h => by
    rw [whoAt_eq (x := ⟨(L[q] : Int) + 1, 0, powP 37 (ss.getD L[q] 0)⟩) (by simp [crdsOf, h])]
  have hb := hL L[j] (List.getElem_mem hjl)
  rw [e j hjl]
  simp only [Bool.and_eq_true, Bool.or_eq_true, decide_eq_true_eq]
  refine ⟨⟨by omega, by omega⟩, ?_⟩
  by_cases h0 : j = 0
  · exact .inl h0
  · refine .inr ?_
    rw [e (j - 1) (by omega)]
    have := List.pairwise_iff_getElem.1 hp (j - 1) j (by omega) hjl (by omega)
    omega
theorem mskE_zero (who : Int) (s : Nat) : ∀ l : List Crd, (∀ c ∈ l, agE s c.key = 0) → mskE who s l = 0
  | [], _ => rfl
  | c :: r, h => by
    rw [mskE]
    have h1 := h c (by simp)
    have h2 := mskE_zero who s r fun d hd => h d (by simp [hd])
    by_cases hw : c.who = who
    · rw [if_pos hw]; exact h2
    · rw [if_neg hw, if_pos h1]; exact h2
theorem crdsOf_E (ss L : List Nat) (N : Nat) (hN : N ≤ 6) (hs : ss.length = N) (hF : Fine ss N) (hp : L.Pairwise (· < ·)) (hL : ∀ j ∈ L, j < N) {i n : Nat} (hi : i < N) (hn : n ≤ 256) : masksE ((i : Int) + 1) (ss.getD i 0) n (crdsOf ss L) = 0 := by
  have hr := crdsOf_rise ss L hp fun j hj => by have := hL j hj; omega
  unfold masksE
  rw [if_pos]
  · refine mskE_zero _ _ _ fun c hc => ?_
    obtain ⟨j, hj, rfl⟩ := List.mem_map.1 hc
    obtain ⟨si, h1, h2, h3, _⟩ := hF i hi
    obtain ⟨sj, g1, _, _, g4⟩ := hF j (hL j hj)
    have ei : ss.getD i 0 = si := by rw [List.getD_eq_getElem?_getD, h1]; rfl
    have ej : ss.getD j 0 = sj := by rw [List.getD_eq_getElem?_getD, g1]; rfl
    rw [ei, ej]
    unfold agE
    rw [if_neg (by omega), if_pos g4]
  · unfold argB
    rw [hr, decide_eq_true (show 1 ≤ (i : Int) + 1 by omega), decide_eq_true (show (i : Int) + 1 ≤ 64 by omega), decide_eq_true (show (0 : Int) ≤ n by omega), decide_eq_true (show (n : Int) ≤ 256 by omega)]
    rfl
theorem others_lt (N lost : Nat) : ∀ j ∈ others N lost, j < N := fun j hj => List.mem_range.1 (List.mem_filter.1 hj).1
theorem others_pair (N lost : Nat) : (others N lost).Pairwise (· < ·) := List.Pairwise.filter _ List.pairwise_lt_range
theorem others_skip (lost : Nat) : others (lost + 1) lost = others lost lost := by
  unfold others
  rw [List.range_succ, List.filter_append]
  simp
theorem others_next {i lost : Nat} (h : i ≠ lost) : others (i + 1) lost = others i lost ++ [i] := by
  unfold others
  rw [List.range_succ, List.filter_append]
  simp [h]

/-- The sum so far; what it should come to. -/
def sumZ (ss xs : List Nat) (n lost i : Nat) (k : Nat) : Int := S (others i lost) fun j : Nat => ofV xs k + mskZ ((j : Int) + 1) (ss.getD j 0) n false (crds ss) k
def wantZ (xs : List Nat) (lost i : Nat) (k : Nat) : Int := S (others i lost) fun _ => ofV xs k
theorem sumZ_zero (ss xs : List Nat) (n lost : Nat) : List.replicate n 0 = vecZ n (sumZ ss xs n lost 0) := by
  rw [zero_vec]
  rfl
theorem wantZ_zero (xs : List Nat) (n lost : Nat) : List.replicate n 0 = vecZ n (wantZ xs lost 0) := by
  rw [zero_vec]
  rfl
theorem sumZ_skip (ss xs : List Nat) (n lost : Nat) : sumZ ss xs n lost (lost + 1) = sumZ ss xs n lost lost := by
  funext k
  unfold sumZ
  rw [others_skip]
theorem wantZ_skip (xs : List Nat) (lost : Nat) : wantZ xs lost (lost + 1) = wantZ xs lost lost := by
  funext k
  unfold wantZ
  rw [others_skip]
theorem sumZ_next (ss xs : List Nat) (n : Nat) {lost i : Nat} (h : i ≠ lost) : List.zipWith add32 (vecZ n (sumZ ss xs n lost i)) (vecZ n fun k => ofV xs k + mskZ ((i : Int) + 1) (ss.getD i 0) n false (crds ss) k) = vecZ n (sumZ ss xs n lost (i + 1)) := by
  rw [zip_add]
  refine vecZ_ext fun k _ => ?_
  congr 1
  unfold sumZ
  rw [others_next h, S_append]
  simp [S]
theorem wantZ_next {xs : List Nat} {n : Nat} (hx : xs.length = n) (xb : ∀ x ∈ xs, x < 4294967296) {lost i : Nat} (h : i ≠ lost) : List.zipWith add32 (vecZ n (wantZ xs lost i)) xs = vecZ n (wantZ xs lost (i + 1)) := by
  rw [show List.zipWith add32 (vecZ n (wantZ xs lost i)) xs = List.zipWith add32 (vecZ n (wantZ xs lost i)) (vecZ n (ofV xs)) from congrArg _ (vecZ_of hx xb)]
  rw [zip_add]
  refine vecZ_ext fun k _ => ?_
  congr 1
  unfold wantZ
  rw [others_next h, S_append]
  simp [S]
theorem sumZ_all (ss xs : List Nat) (n lost k : Nat) : sumZ ss xs n lost ss.length k = wantZ xs lost ss.length k + if lost < ss.length then S (others ss.length lost) fun i => T ss n k i lost else 0 := by
  unfold sumZ wantZ
  rw [S_add, goes]
theorem end_none (ss xs : List Nat) (n lost : Nat) (h : ss.length ≤ lost) : vecZ n (sumZ ss xs n lost ss.length) = vecZ n (wantZ xs lost ss.length) := by
  refine vecZ_ext fun k _ => ?_
  rw [sumZ_all, if_neg (by omega), Int.add_zero]
theorem end_some (ss xs : List Nat) (n lost : Nat) (h : lost < ss.length) : List.zipWith sub32 (vecZ n (sumZ ss xs n lost ss.length)) (mskL ((lost : Int) + 1) (ss.getD lost 0) n true (rest ss lost)) = vecZ n (wantZ xs lost ss.length) := by
  rw [mskL_Z, zip_sub]
  refine vecZ_ext fun k _ => ?_
  rw [sumZ_all, if_pos h, left_Z ss n k h]
  congr 1
  omega
theorem hid_less (ss xs sd : List Nat) {n : Nat} (hx : xs.length = n) (xb : ∀ x ∈ xs, x < 4294967296) (i : Nat) :
    List.zipWith sub32 (hidV xs (ownV sd n) (mskL ((i : Int) + 1) (ss.getD i 0) n false (crds ss))) (ownV sd n) = vecZ n fun k => ofV xs k + mskZ ((i : Int) + 1) (ss.getD i 0) n false (crds ss) k := by
  rw [mskL_Z]
  exact hid_own hx xb (ownV_length _ _) (ownV_lt _ _) _
theorem hidV_lt (xs ys zs : List Nat) : ∀ x ∈ hidV xs ys zs, x < 4294967296 := by
  intro x hx
  unfold hidV at hx
  obtain ⟨i, hi, rfl⟩ := List.mem_iff_getElem.1 hx
  rw [List.getElem_zipWith]
  exact add32_lt _ _
end Mz
end Go.Proofs.YtjbpnhibgafdmaaDoor
