/-
  Polynomials over the numbers modulo 2^61 - 1, as lists: values, sums, products, how many roots, the one through given points (by each point's own polynomial). Plain mathematics: nothing of the program.
-/
import Derived.Test.YthfaahngnnfefaaField
namespace Go.Proofs.Ythfaahngnnfefaa.Pm
open M
set_option linter.unusedVariables false

/-- The numbers modulo P. -/
abbrev Fp := Fin 2305843009213693951
def F (a : Nat) : Fp := Fin.ofNat 2305843009213693951 a
theorem F_val (a : Nat) : (F a).val = a % 2305843009213693951 := rfl
theorem F_iff {a b : Nat} : F a = F b ↔ a % 2305843009213693951 = b % 2305843009213693951 := by rw [Fin.ext_iff, F_val, F_val]
theorem F_inj {a b : Nat} (ha : a < 2305843009213693951) (hb : b < 2305843009213693951) (h : F a = F b) : a = b := by
  rw [F_iff] at h; omega
theorem F_zero : F 0 = 0 := rfl
theorem F_one : F 1 = 1 := rfl
theorem F_eq_zero {a : Nat} : F a = 0 ↔ md a = 0 := by rw [← F_zero, F_iff]; unfold md; omega
theorem F_lt_zero {a : Nat} (h : a < 2305843009213693951) : F a = 0 ↔ a = 0 := by rw [F_eq_zero]; unfold md; omega
theorem F_md (a : Nat) : F (md a) = F a := by rw [F_iff]; unfold md; omega
theorem F_addP (a b : Nat) : F (addP a b) = F a + F b := by
  rw [Fin.ext_iff, Fin.val_add, F_val, F_val, F_val]; unfold addP; omega
theorem F_mulP (a b : Nat) : F (mulP a b) = F a * F b := by
  rw [Fin.ext_iff, Fin.val_mul, F_val, F_val, F_val]; unfold mulP; rw [Nat.mod_mod, ← Nat.mul_mod]
theorem F_add (a b : Nat) : F (a + b) = F a + F b := by
  rw [Fin.ext_iff, Fin.val_add, F_val, F_val, F_val]; omega
theorem F_subP (a b : Nat) : F (subP a b) = F a - F b := by
  have h : F (subP a b) + F b = F a := by
    rw [← F_addP, F_iff]; unfold addP subP; omega
  rw [← h]; grind
theorem F_surj (x : Fp) : F x.val = x := by rw [Fin.ext_iff, F_val]; exact Nat.mod_eq_of_lt x.isLt

theorem no_zero {x y : Fp} (h : x * y = 0) : x = 0 ∨ y = 0 := by
  rw [← F_surj x, ← F_surj y] at h ⊢
  rw [← F_mulP, F_lt_zero (mulP_lt _ _), mulP_zero] at h
  rw [F_eq_zero, F_eq_zero]; exact h
/-- What times x is 1. -/
def inv (x : Fp) : Fp := F (invP x.val)
theorem inv_mul {x : Fp} (h : x ≠ 0) : inv x * x = 1 := by
  have hx : x.val % 2305843009213693951 ≠ 0 := by
    intro e
    apply h
    rw [← F_surj x, F_eq_zero]
    exact e
  have := congrArg F (invP_mul x.val hx)
  rw [F_mulP, F_surj, F_one] at this
  exact this
theorem inv_one {x y : Fp} (h : y * x = 1) : y = inv x := by
  by_cases h0 : x = 0
  · subst h0
    have : (0 : Fp) = 1 := by grind
    exact absurd this (by decide)
  · have := inv_mul h0
    grind
/-- By any number that times x is 1. -/
theorem F_inv {i x : Nat} (h : mulP i x = 1) : F i = inv (F x) := by
  apply inv_one
  rw [← F_mulP, h, F_one]

/-- A polynomial's value. -/
def ev : List Fp → Fp → Fp
  | [], _ => 0
  | c :: r, x => c + x * ev r x
theorem ev_zero {l : List Fp} (h : ∀ c ∈ l, c = 0) (x : Fp) : ev l x = 0 := by
  induction l with
  | nil => rfl
  | cons c r ih =>
    have := ih fun c hc => h c (by simp [hc])
    have h0 := h c (by simp)
    simp only [ev]
    grind
theorem ev_append (l m : List Fp) (x : Fp) : ev (l ++ m) x = ev l x + x ^ l.length * ev m x := by
  induction l with
  | nil => simp only [List.nil_append, ev, List.length_nil]; grind
  | cons c r ih =>
    simp only [List.cons_append, ev, ih, List.length_cons]
    grind

/-- Divided by x - a. -/
def quo (a : Fp) : List Fp → List Fp
  | [] => []
  | [_] => []
  | _ :: d :: r => ev (d :: r) a :: quo a (d :: r)
theorem quo_length (a : Fp) : ∀ l : List Fp, (quo a l).length = l.length - 1
  | [] => rfl
  | [_] => rfl
  | c :: d :: r => by simp [quo, quo_length a (d :: r)]
theorem ev_quo (a x : Fp) : ∀ l : List Fp, ev l x = ev l a + (x - a) * ev (quo a l) x
  | [] => by simp only [ev, quo]; grind
  | [c] => by simp only [ev, quo]; grind
  | c :: d :: r => by
    have ih := ev_quo a x (d :: r)
    rw [quo]
    have e1 : ev (c :: d :: r) x = c + x * ev (d :: r) x := rfl
    have e2 : ev (c :: d :: r) a = c + a * ev (d :: r) a := rfl
    have e3 : ev (ev (d :: r) a :: quo a (d :: r)) x = ev (d :: r) a + x * ev (quo a (d :: r)) x := rfl
    rw [e1, e2, e3, ih]
    generalize ev (d :: r) a = u
    generalize ev (quo a (d :: r)) x = v
    grind
theorem quo_zero (a : Fp) : ∀ l : List Fp, (∀ c ∈ quo a l, c = 0) → ev l a = 0 → ∀ c ∈ l, c = 0
  | [], _, _ => by simp
  | [c], _, h => by
    simp only [ev] at h
    intro d hd
    obtain rfl : d = c := by simpa using hd
    grind
  | c :: d :: r, hq, h => by
    have h1 : ev (d :: r) a = 0 := hq _ (by simp [quo])
    have h2 := quo_zero a (d :: r) (fun e he => hq e (by simp [quo, he])) h1
    have h3 : c + a * ev (d :: r) a = 0 := h
    intro e he
    rcases List.mem_cons.1 he with rfl | he
    · rw [h1] at h3; grind
    · exact h2 e he
/-- A polynomial of no more numbers than it has roots is nothing. -/
theorem roots : ∀ (xs : List Fp) (l : List Fp), xs.Nodup → l.length ≤ xs.length → (∀ x ∈ xs, ev l x = 0) → ∀ c ∈ l, c = 0 := by
  intro xs
  induction xs with
  | nil =>
    intro l _ hl _
    have : l = [] := List.eq_nil_of_length_eq_zero (by simpa using hl)
    subst this; simp
  | cons a xs ih =>
    intro l hn hl h
    have h0 := h a (by simp)
    refine quo_zero a l (ih (quo a l) (List.nodup_cons.1 hn).2 (by rw [quo_length]; simp at hl; omega) ?_) h0
    intro x hx
    have h1 := h x (by simp [hx])
    rw [ev_quo a x l, h0] at h1
    have hne : x - a ≠ 0 := by
      intro e
      have : x = a := by grind
      subst this
      exact (List.nodup_cons.1 hn).1 hx
    rcases no_zero (show (x - a) * ev (quo a l) x = 0 by grind) with h2 | h2
    · exact absurd h2 hne
    · exact h2

/-- Sums and products. -/
def addL : List Fp → List Fp → List Fp
  | [], m => m
  | c :: l, [] => c :: l
  | c :: l, d :: m => (c + d) :: addL l m
theorem addL_nil (l : List Fp) : addL l [] = l := by cases l <;> rfl
theorem ev_addL (x : Fp) : ∀ l m : List Fp, ev (addL l m) x = ev l x + ev m x
  | [], m => by simp only [addL, ev]; grind
  | c :: l, [] => by simp only [addL, ev]; grind
  | c :: l, d :: m => by
    simp only [addL, ev, ev_addL x l m]
    grind
theorem addL_length : ∀ l m : List Fp, (addL l m).length = max l.length m.length
  | [], m => by simp [addL]
  | c :: l, [] => by simp [addL]
  | c :: l, d :: m => by simp only [addL, List.length_cons, addL_length l m]; omega
def co (l : List Fp) (i : Nat) : Fp := l.getD i 0
theorem co_addL : ∀ (l m : List Fp) (i : Nat), co (addL l m) i = co l i + co m i
  | [], m, i => by simp [addL, co]
  | c :: l, [], i => by simp [addL, co]
  | c :: l, d :: m, 0 => by simp [addL, co]
  | c :: l, d :: m, i + 1 => by
    have := co_addL l m i
    simpa [addL, co] using this
def smul (k : Fp) (l : List Fp) : List Fp := l.map (k * ·)
theorem ev_smul (k x : Fp) (l : List Fp) : ev (smul k l) x = k * ev l x := by
  induction l with
  | nil => simp only [smul, List.map, ev]; grind
  | cons c r ih =>
    simp only [smul, List.map, ev] at ih ⊢
    rw [ih]; grind
theorem smul_length (k : Fp) (l : List Fp) : (smul k l).length = l.length := by simp [smul]
theorem co_smul (k : Fp) (l : List Fp) (i : Nat) : co (smul k l) i = k * co l i := by
  unfold co smul
  by_cases h : i < l.length
  · simp [h]
  · simp only [List.getD_eq_getElem?_getD, List.getElem?_map, List.getElem?_eq_none (Nat.le_of_not_lt h), Option.map_none, Option.getD_none]; grind
def mulL : List Fp → List Fp → List Fp
  | [], _ => []
  | c :: l, m => addL (smul c m) (0 :: mulL l m)
theorem ev_mulL (x : Fp) : ∀ l m : List Fp, ev (mulL l m) x = ev l x * ev m x
  | [], m => by simp only [mulL, ev]; grind
  | c :: l, m => by
    simp only [mulL, ev_addL, ev_smul, ev, ev_mulL x l m]
    grind
theorem mulL_length : ∀ l m : List Fp, (mulL l m).length ≤ l.length + m.length
  | [], m => by simp [mulL]
  | c :: l, m => by
    have := mulL_length l m
    simp only [mulL, addL_length, smul_length, List.length_cons]; omega
theorem mulL_two : ∀ (l : List Fp) (a b : Fp), (mulL l [a, b]).length ≤ l.length + 1
  | [], a, b => by simp [mulL]
  | [c], a, b => by simp [mulL, addL_length, smul_length]
  | c :: d :: l, a, b => by
    have := mulL_two (d :: l) a b
    rw [mulL]
    simp only [addL_length, smul_length, List.length_cons, List.length_nil] at this ⊢; omega

/-- Two polynomials of no more numbers than places at which they agree have the same numbers. -/
theorem same_co {xs : List Fp} (hn : xs.Nodup) {l m : List Fp} (hl : l.length ≤ xs.length) (hm : m.length ≤ xs.length) (h : ∀ x ∈ xs, ev l x = ev m x) (i : Nat) : co l i = co m i := by
  have hz := roots xs (addL l (smul (-1) m)) hn (by rw [addL_length, smul_length]; omega) (fun x hx => by
    rw [ev_addL, ev_smul, h x hx]; grind)
  have h1 : co (addL l (smul (-1) m)) i = 0 := by
    unfold co
    by_cases hi : i < (addL l (smul (-1) m)).length
    · rw [List.getD_eq_getElem?_getD, List.getElem?_eq_getElem hi]
      exact hz _ (List.getElem_mem hi)
    · rw [List.getD_eq_getElem?_getD, List.getElem?_eq_none (Nat.le_of_not_lt hi)]
      rfl
  rw [co_addL, co_smul] at h1
  grind
theorem ev_co : ∀ (l m : List Fp), (∀ i, co l i = co m i) → ∀ x, ev l x = ev m x
  | [], m, h, x => by
    have : ∀ c ∈ m, c = 0 := by
      intro c hc
      obtain ⟨i, hi, rfl⟩ := List.getElem_of_mem hc
      have := h i
      simp [co, hi] at this
      exact this.symm
    rw [ev_zero this]; rfl
  | c :: l, [], h, x => by
    have : ∀ d ∈ c :: l, d = 0 := by
      intro d hd
      obtain ⟨i, hi, rfl⟩ := List.getElem_of_mem hd
      have := h i
      rw [co, co, List.getD_eq_getElem?_getD, List.getElem?_eq_getElem hi] at this
      simpa using this
    rw [ev_zero this]; rfl
  | c :: l, d :: m, h, x => by
    have h0 : c = d := by simpa [co] using h 0
    have h1 := ev_co l m (fun i => by simpa [co] using h (i + 1)) x
    simp only [ev, h0, h1]
theorem same_ev {xs : List Fp} (hn : xs.Nodup) {l m : List Fp} (hl : l.length ≤ xs.length) (hm : m.length ≤ xs.length) (h : ∀ x ∈ xs, ev l x = ev m x) (x : Fp) : ev l x = ev m x :=
  ev_co l m (same_co hn hl hm h) x

/-- No 0 at the end. -/
def Tight (l : List Fp) : Prop := ∀ c, l.getLast? = some c → c ≠ 0
theorem same_list {xs : List Fp} (hn : xs.Nodup) {l m : List Fp} (hl : l.length ≤ xs.length) (hm : m.length ≤ xs.length) (h : ∀ x ∈ xs, ev l x = ev m x) (el : Tight l) (em : Tight m) : l = m := by
  have hc := same_co hn hl hm h
  have key : ∀ a b : List Fp, (∀ i, co a i = co b i) → Tight b → b.length ≤ a.length := by
    intro a b hab eb
    apply Nat.le_of_not_lt
    intro hlt
    have hb : b.length - 1 < b.length := by omega
    have h1 := hab (b.length - 1)
    have h2 : co a (b.length - 1) = 0 := by
      unfold co
      rw [List.getD_eq_getElem?_getD, List.getElem?_eq_none (by omega)]
      rfl
    have h3 : b.getLast? = some (co b (b.length - 1)) := by
      unfold co
      rw [List.getLast?_eq_getElem?, List.getD_eq_getElem?_getD, List.getElem?_eq_getElem hb]
      rfl
    exact eb _ h3 (by rw [← h1, h2])
  have hle := key m l (fun i => (hc i).symm) el
  have hge := key l m hc em
  apply List.ext_getElem (by omega)
  intro i h1 h2
  have := hc i
  simpa [co, h1, h2] using this

/-- Enough places. -/
def places : Nat → List Fp
  | 0 => []
  | n + 1 => F n :: places n
theorem places_length : ∀ n, (places n).length = n
  | 0 => rfl
  | n + 1 => by simp [places, places_length n]
theorem places_mem : ∀ (n : Nat) (x : Fp), x ∈ places n → ∃ k, k < n ∧ x = F k
  | 0, x, h => by simp [places] at h
  | n + 1, x, h => by
    rcases List.mem_cons.1 h with rfl | h
    · exact ⟨n, by omega, rfl⟩
    · obtain ⟨k, hk, rfl⟩ := places_mem n x h
      exact ⟨k, by omega, rfl⟩
theorem places_nodup : ∀ n : Nat, n < 2305843009213693951 → (places n).Nodup
  | 0, _ => by simp [places]
  | n + 1, h => by
    refine List.nodup_cons.2 ⟨fun hm => ?_, places_nodup n (by omega)⟩
    obtain ⟨k, hk, e⟩ := places_mem n _ hm
    have := F_inj (by omega) (by omega) e
    omega
/-- Lists without 0 at the end that have the same values are the same. -/
theorem same_of_ev {l m : List Fp} {n : Nat} (hn : n < 2305843009213693951) (hl : l.length ≤ n) (hm : m.length ≤ n) (h : ∀ x, ev l x = ev m x) (el : Tight l) (em : Tight m) : l = m :=
  same_list (places_nodup n hn) (by rw [places_length]; exact hl) (by rw [places_length]; exact hm) (fun x _ => h x) el em

/-! The polynomial through points, each point's own one by all others. -/
section
variable (X Y : Nat → Fp)
def lpart (i : Nat) (x : Fp) : Nat → Fp
  | 0 => Y i
  | k + 1 => if k = i then lpart i x k else lpart i x k * (x - X k) * inv (X i - X k)
def lag (n : Nat) (x : Fp) : Nat → Fp
  | 0 => 0
  | i + 1 => lag n x i + lpart X Y i x n
def partL (i : Nat) : Nat → List Fp
  | 0 => [Y i]
  | k + 1 => if k = i then partL i k else mulL (partL i k) [-(X k) * inv (X i - X k), inv (X i - X k)]
def lagL (n : Nat) : Nat → List Fp
  | 0 => []
  | i + 1 => addL (lagL n i) (partL X Y i n)
theorem ev_partL (i : Nat) (x : Fp) : ∀ k, ev (partL X Y i k) x = lpart X Y i x k
  | 0 => by simp only [partL, lpart, ev]; grind
  | k + 1 => by
    rw [partL, lpart]
    split
    · exact ev_partL i x k
    · rw [ev_mulL, ev_partL i x k]
      simp only [ev]
      grind
theorem ev_lagL (n : Nat) (x : Fp) : ∀ k, ev (lagL X Y n k) x = lag X Y n x k
  | 0 => rfl
  | k + 1 => by rw [lagL, lag, ev_addL, ev_lagL n x k, ev_partL]
theorem partL_length (i : Nat) : ∀ k, (partL X Y i k).length + (if i < k then 1 else 0) ≤ k + 1
  | 0 => by simp [partL]
  | k + 1 => by
    have ih := partL_length i k
    rw [partL]
    split
    · rename_i h
      subst h
      simp at ih
      rw [if_pos (by omega)]; omega
    · rename_i h
      have h2 := mulL_two (partL X Y i k) (-(X k) * inv (X i - X k)) (inv (X i - X k))
      split <;> split at ih <;> omega
theorem lagL_length (n : Nat) : ∀ k, k ≤ n → (lagL X Y n k).length ≤ n
  | 0, _ => by simp [lagL]
  | k + 1, h => by
    have ih := lagL_length n k (by omega)
    have h2 := partL_length X Y k n
    rw [if_pos (by omega)] at h2
    rw [lagL, addL_length]; omega
variable {X Y}
theorem part_own {i : Nat} : ∀ {k : Nat}, (∀ j, j < k → j ≠ i → X i ≠ X j) → lpart X Y i (X i) k = Y i
  | 0, _ => rfl
  | k + 1, h => by
    have ih := part_own (i := i) (k := k) (fun j hj => h j (by omega))
    rw [lpart]
    split
    · exact ih
    · rename_i hk
      have hne : X i - X k ≠ 0 := by
        intro e
        exact h k (by omega) hk (by grind)
      have := inv_mul hne
      rw [ih]
      generalize inv (X i - X k) = c at *
      grind
theorem part_other {i j : Nat} (hij : j ≠ i) : ∀ {k : Nat}, j < k → lpart X Y i (X j) k = 0
  | 0, h => by omega
  | k + 1, h => by
    rw [lpart]
    split
    · rename_i hk
      exact part_other hij (by omega)
    · by_cases hjk : j = k
      · subst hjk; grind
      · rw [part_other hij (show j < k by omega)]; grind
theorem lag_at {n j : Nat} (hX : ∀ a b, a < n → b < n → a ≠ b → X a ≠ X b) (hj : j < n) : ∀ {k : Nat}, k ≤ n → lag X Y n (X j) k = if j < k then Y j else 0
  | 0, _ => by simp [lag]
  | k + 1, hk => by
    rw [lag, lag_at hX hj (k := k) (by omega)]
    by_cases h : j = k
    · subst h
      rw [part_own (fun i hi hne => hX _ _ hj hi (Ne.symm hne))]
      simp
    · rw [part_other h hj]
      by_cases h' : j < k
      · rw [if_pos h', if_pos (by omega)]; grind
      · rw [if_neg h', if_neg (by omega)]; grind
/-- Any polynomial of no more numbers than points, with these values, has everywhere this value. -/
theorem lag_any {n : Nat} {l : List Fp} (hX : ∀ a b, a < n → b < n → a ≠ b → X a ≠ X b) (hl : l.length ≤ n) (h : ∀ j, j < n → ev l (X j) = Y j) (x : Fp) : ev l x = lag X Y n x n := by
  rw [← ev_lagL]
  have hnd : ((List.range n).map X).Nodup := by
    rw [List.nodup_iff_pairwise_ne, List.pairwise_map]
    refine List.Pairwise.imp_of_mem ?_ (List.nodup_range (n := n))
    intro a b ha hb hne
    exact hX a b (List.mem_range.1 ha) (List.mem_range.1 hb) hne
  refine same_ev hnd (by simpa using hl) (by simpa using lagL_length X Y n n (Nat.le_refl _)) ?_ x
  intro y hy
  obtain ⟨j, hj, rfl⟩ := List.mem_map.1 hy
  have hj' := List.mem_range.1 hj
  rw [h j hj', ev_lagL, lag_at hX hj' (Nat.le_refl _), if_pos hj']
end
end Go.Proofs.Ythfaahngnnfefaa.Pm
