/-
  Sets of donors as bits (P18.1): their donors, their size, what is in them, what is within what.
-/
namespace Go.Proofs.YtgaphbncefphbaaDoor.Cr

/-- The donors of a set, below the k-th. -/
def lsTo (c k : Nat) : List Nat := ((List.range k).filter fun i => c.testBit i).map (· + 1)
def listC (c : Nat) : List Nat := lsTo c 64
def sizeC (c : Nat) : Nat := (listC c).length
def hasC (c : Nat) (n : Int) : Bool := decide (1 ≤ n) && decide (n ≤ 64) && c.testBit (n - 1).toNat
def withinC (a b : Nat) : Bool := (listC a).all fun d => hasC b (d : Int)
/-- The bits of b turned. -/
def turn (b : Nat) : Nat := 18446744073709551615 - b
theorem turn_at {b : Nat} (hb : b < 18446744073709551616) (i : Nat) : (turn b).testBit i = (decide (i < 64) && !b.testBit i) := by
  have := Nat.testBit_two_pow_sub_succ (x := b) (n := 64) (by simpa using hb) i
  rw [← this, show turn b = 2 ^ 64 - (b + 1) by unfold turn; omega]
theorem lsTo_next (c k : Nat) : lsTo c (k + 1) = lsTo c k ++ if c.testBit k = true then [k + 1] else [] := by
  unfold lsTo
  rw [List.range_succ, List.filter_append, List.map_append]
  cases h : c.testBit k <;> simp [h]
theorem mem_lsTo {c k d : Nat} : d ∈ lsTo c k ↔ 1 ≤ d ∧ d ≤ k ∧ c.testBit (d - 1) = true := by
  unfold lsTo
  rw [List.mem_map]
  constructor
  · rintro ⟨i, hi, rfl⟩
    rw [List.mem_filter, List.mem_range] at hi
    exact ⟨by omega, by omega, by simpa using hi.2⟩
  · rintro ⟨h1, h2, h3⟩
    exact ⟨d - 1, List.mem_filter.2 ⟨List.mem_range.2 (by omega), h3⟩, by omega⟩
theorem high {a i : Nat} (ha : a < 18446744073709551616) (hi : 64 ≤ i) : a.testBit i = false :=
  Nat.testBit_lt_two_pow (Nat.lt_of_lt_of_le (show a < 2 ^ 64 by simpa using ha) (Nat.pow_le_pow_right (by decide) hi))
theorem parts_to (a b k : Nat) (hb : b < 18446744073709551616) (hk : k ≤ 64) : (lsTo (a &&& b) k).length + (lsTo (a &&& turn b) k).length = (lsTo a k).length := by
  induction k with
  | zero => rfl
  | succ k ih =>
    rw [lsTo_next, lsTo_next, lsTo_next, List.length_append, List.length_append, List.length_append, Nat.testBit_and, Nat.testBit_and, turn_at hb]
    have := ih (by omega)
    have hk' : k < 64 := by omega
    cases a.testBit k <;> cases b.testBit k <;> simp [hk'] <;> omega
/-- What two sets have together, and one alone. -/
theorem parts (a b : Nat) (hb : b < 18446744073709551616) : sizeC (a &&& b) + sizeC (a &&& turn b) = sizeC a := parts_to a b 64 hb (by omega)
theorem within_iff {a b : Nat} : withinC a b = true ↔ ∀ i, i < 64 → a.testBit i = true → b.testBit i = true := by
  unfold withinC listC
  rw [List.all_eq_true]
  constructor
  · intro h i hi ha
    have := h (i + 1) (mem_lsTo.2 ⟨by omega, by omega, by simpa using ha⟩)
    unfold hasC at this
    simp only [Bool.and_eq_true, decide_eq_true_eq] at this
    rw [show (((i + 1 : Nat) : Int) - 1).toNat = i by omega] at this
    exact this.2
  · intro h d hd
    obtain ⟨h1, h2, h3⟩ := mem_lsTo.1 hd
    unfold hasC
    simp only [Bool.and_eq_true, decide_eq_true_eq]
    rw [show ((d : Int) - 1).toNat = d - 1 by omega]
    exact ⟨⟨by omega, by omega⟩, h _ (by omega) h3⟩
theorem within_both_l (a b : Nat) : withinC (a &&& b) a = true := within_iff.2 fun i _ h => by
  rw [Nat.testBit_and, Bool.and_eq_true] at h
  exact h.1
theorem within_both_r (a b : Nat) : withinC (a &&& b) b = true := within_iff.2 fun i _ h => by
  rw [Nat.testBit_and, Bool.and_eq_true] at h
  exact h.2
theorem within_one {a b : Nat} (hb : b < 18446744073709551616) : withinC a b = decide (a &&& turn b = 0) := by
  rw [Bool.eq_iff_iff, within_iff, decide_eq_true_eq]
  constructor
  · intro h
    apply Nat.eq_of_testBit_eq
    intro i
    rw [Nat.testBit_and, turn_at hb, Nat.zero_testBit]
    by_cases hi : i < 64
    · cases ht : a.testBit i
      · rfl
      · simp [h i hi ht]
    · simp [hi]
  · intro h i hi ht
    have := congrArg (fun n => n.testBit i) h
    simp only [Nat.testBit_and, turn_at hb, Nat.zero_testBit, ht, hi, decide_true, Bool.true_and] at this
    simpa using this
theorem has_parts (a b : Nat) (hb : b < 18446744073709551616) (n : Int) : hasC a n = (hasC (a &&& b) n || hasC (a &&& turn b) n) := by
  unfold hasC
  rw [Nat.testBit_and, Nat.testBit_and, turn_at hb]
  by_cases h1 : 1 ≤ n
  · by_cases h2 : n ≤ 64
    · have : (n - 1).toNat < 64 := by omega
      simp only [h1, h2, this, decide_true, Bool.true_and]
      cases a.testBit (n - 1).toNat <;> cases b.testBit (n - 1).toNat <;> rfl
    · simp [h2]
  · simp [h1]
/-- A set of these donors. -/
def ofL (l : List Nat) : Nat := l.foldl (fun m d => m ||| 2 ^ (d - 1)) 0
theorem ofL_from (l : List Nat) (m i : Nat) (hl : ∀ d ∈ l, 1 ≤ d) : (l.foldl (fun m d => m ||| 2 ^ (d - 1)) m).testBit i = (m.testBit i || l.contains (i + 1)) := by
  induction l generalizing m with
  | nil => simp
  | cons d r ih =>
    rw [List.foldl_cons, ih _ (fun x hx => hl x (List.mem_cons_of_mem _ hx)), Nat.testBit_or, Nat.testBit_two_pow, List.contains_cons]
    have := hl d List.mem_cons_self
    have e : decide (d - 1 = i) = (i + 1 == d) := by
      rw [Bool.eq_iff_iff, decide_eq_true_eq, beq_iff_eq]
      omega
    rw [e, Bool.or_assoc]
theorem ofL_at (l : List Nat) (hl : ∀ d ∈ l, 1 ≤ d) (i : Nat) : (ofL l).testBit i = l.contains (i + 1) := by
  unfold ofL
  rw [ofL_from l 0 i hl]
  simp
/-- A set's donors are that set. -/
theorem back {c : Nat} (hc : c < 18446744073709551616) : ofL (listC c) = c := by
  apply Nat.eq_of_testBit_eq
  intro i
  rw [ofL_at (listC c) (fun d hd => (mem_lsTo (c := c) (k := 64).1 hd).1)]
  by_cases hi : i < 64
  · rw [Bool.eq_iff_iff, List.contains_iff_mem, listC, mem_lsTo]
    constructor
    · exact fun h => by simpa using h.2.2
    · exact fun h => ⟨by omega, by omega, by simpa using h⟩
  · rw [high hc (by omega), Bool.eq_false_iff]
    intro h
    rw [List.contains_iff_mem, listC, mem_lsTo] at h
    omega
theorem listC_nodup (c : Nat) : (listC c).Nodup := by
  unfold listC lsTo
  refine List.Pairwise.map _ (fun a b h => ?_) (List.Pairwise.filter _ List.nodup_range)
  omega
theorem listC_rise (c : Nat) : (listC c).Pairwise (· < ·) := by
  unfold listC lsTo
  refine List.Pairwise.map _ (fun a b h => ?_) (List.Pairwise.filter _ List.pairwise_lt_range)
  omega
theorem mem_of {l : List Nat} (hl : ∀ d ∈ l, 1 ≤ d ∧ d ≤ 64) (d : Nat) : d ∈ listC (ofL l) ↔ d ∈ l := by
  unfold listC
  rw [mem_lsTo, ofL_at l (fun x hx => (hl x hx).1), List.contains_iff_mem]
  constructor
  · rintro ⟨h1, _, h3⟩
    rwa [show d - 1 + 1 = d by omega] at h3
  · intro h
    have := hl d h
    exact ⟨this.1, this.2, by rwa [show d - 1 + 1 = d by omega]⟩
/-- A set of numbers, none of them twice, has as many. -/
theorem size_of {l : List Nat} (hl : ∀ d ∈ l, 1 ≤ d ∧ d ≤ 64) (hn : l.Nodup) : sizeC (ofL l) = l.length :=
  ((List.perm_ext_iff_of_nodup (listC_nodup _) hn).2 (mem_of hl)).length_eq
theorem has_of {l : List Nat} (hl : ∀ d ∈ l, 1 ≤ d ∧ d ≤ 64) (n : Nat) : hasC (ofL l) (n : Int) = l.contains n := by
  rw [Bool.eq_iff_iff, List.contains_iff_mem, ← mem_of hl, listC, mem_lsTo]
  unfold hasC
  simp only [Bool.and_eq_true, decide_eq_true_eq]
  rw [show ((n : Int) - 1).toNat = n - 1 by omega]
  constructor
  · rintro ⟨⟨h1, h2⟩, h3⟩
    exact ⟨by omega, by omega, h3⟩
  · rintro ⟨h1, h2, h3⟩
    exact ⟨⟨by omega, by omega⟩, h3⟩
theorem has_out {c : Nat} {n : Int} (h : n < 1 ∨ 64 < n) : hasC c n = false := by
  unfold hasC
  rcases h with h | h
  · rw [decide_eq_false (by omega)]; rfl
  · rw [decide_eq_false (p := n ≤ 64) (by omega)]; simp
theorem ofL_lt {l : List Nat} (hl : ∀ d ∈ l, 1 ≤ d ∧ d ≤ 64) : ofL l < 18446744073709551616 := by
  have : ofL l < 2 ^ 64 := by
    apply Nat.lt_pow_two_of_testBit
    intro i hi
    rw [ofL_at l (fun x hx => (hl x hx).1), Bool.eq_false_iff]
    intro h
    have := hl _ (List.contains_iff_mem.1 h)
    omega
  simpa using this
/-- The first k. -/
def allC (k : Nat) : Nat := 2 ^ k - 1
theorem allC_to (k m : Nat) (h : m ≤ k) : lsTo (allC k) m = (List.range m).map (· + 1) := by
  unfold lsTo allC
  congr 1
  rw [List.filter_eq_self]
  intro i hi
  rw [Nat.testBit_two_pow_sub_one]
  have := List.mem_range.1 hi
  simp
  omega
theorem lsTo_stop (k m : Nat) (h : k ≤ m) : lsTo (allC k) m = lsTo (allC k) k := by
  induction m with
  | zero => rw [show k = 0 by omega]
  | succ m ih =>
    by_cases e : k = m + 1
    · rw [e]
    · rw [lsTo_next, ih (by omega), if_neg, List.append_nil]
      unfold allC
      rw [Nat.testBit_two_pow_sub_one]
      simp
      omega
theorem listC_all (k : Nat) (h : k ≤ 64) : listC (allC k) = (List.range k).map (· + 1) := by
  unfold listC
  rw [lsTo_stop k 64 h, allC_to k k (Nat.le_refl _)]
theorem allC_lt (k : Nat) (h : k ≤ 64) : allC k < 18446744073709551616 := by
  have : 2 ^ k ≤ 2 ^ 64 := Nat.pow_le_pow_right (by decide) h
  have h1 : 0 < 2 ^ k := Nat.two_pow_pos k
  unfold allC
  simp at this
  omega
theorem within_self (c : Nat) : withinC c c = true := within_iff.2 fun _ _ h => h
theorem within_all (c : Nat) : withinC c (allC 64) = true := within_iff.2 fun i hi _ => by
  unfold allC
  rw [Nat.testBit_two_pow_sub_one]
  simpa using hi
theorem none_within (c : Nat) : withinC 0 c = true := within_iff.2 fun i _ h => by simp at h
theorem sizeC_le (c : Nat) : sizeC c ≤ 64 := by
  unfold sizeC listC lsTo
  rw [List.length_map]
  exact Nat.le_trans (List.length_filter_le _ _) (by simp)
end Go.Proofs.YtgaphbncefphbaaDoor.Cr
