/-
  Numbers in decimal digits: their texts, and how these are ordered. Plain mathematics: nothing of the program.
-/
import Derived.Test.YtegegfoogkpncaaDoorWideN
import Derived.Test.YtegegfoogkpncaaDoorSsbOps
namespace Go.Proofs.YtegegfoogkpncaaDoor
set_option linter.unusedVariables false
namespace Wd

/-- The digits of y ahead of those that are there already (f: as many rounds as it may take). -/
def decF : Nat → Nat → List Nat → List Nat
  | 0, _, acc => acc
  | f + 1, y, acc => if y / 10 = 0 then (48 + y % 10) :: acc else decF f (y / 10) ((48 + y % 10) :: acc)
def decL (x : Nat) : List Nat := decF 39 x []
theorem decF_stop {f y : Nat} (h : y / 10 = 0) (acc : List Nat) : decF (f + 1) y acc = (48 + y % 10) :: acc := by rw [decF, if_pos h]
theorem decF_next {f y : Nat} (h : y / 10 ≠ 0) (acc : List Nat) : decF (f + 1) y acc = decF f (y / 10) ((48 + y % 10) :: acc) := by rw [decF, if_neg h]

def valT : List Nat → Nat
  | [] => 0
  | d :: r => (d - 48) * 10 ^ r.length + valT r
/-- The text of a number. -/
structure Tx (x : Nat) (l : List Nat) : Prop where
  dig : ∀ d ∈ l, 48 ≤ d ∧ d ≤ 57
  val : valT l = x
  pos : 0 < l.length
  head : l.head? = some 48 → l = [48]
theorem valT_lt : ∀ {l : List Nat}, (∀ d ∈ l, 48 ≤ d ∧ d ≤ 57) → valT l < 10 ^ l.length
  | [], _ => by simp [valT]
  | d :: r, h => by
    have ih := valT_lt (l := r) fun x hx => h x (by simp [hx])
    have hd := h d (by simp)
    rw [valT, List.length_cons, Nat.pow_succ]
    have : (d - 48) * 10 ^ r.length ≤ 9 * 10 ^ r.length := Nat.mul_le_mul_right _ (by omega)
    omega
theorem decF_facts : ∀ (f y : Nat) (acc : List Nat), 0 < f → y < 10 ^ f → (∀ d ∈ acc, 48 ≤ d ∧ d ≤ 57) →
    (∀ d ∈ decF f y acc, 48 ≤ d ∧ d ≤ 57) ∧ valT (decF f y acc) = y * 10 ^ acc.length + valT acc ∧ (∃ h t, decF f y acc = h :: t ∧ (y ≠ 0 → h ≠ 48) ∧ acc.length ≤ t.length) ∧ (y = 0 → decF f y acc = 48 :: acc)
  | 0, _, _, h, _, _ => by omega
  | f + 1, y, acc, _, hy, ha => by
    have ha' : ∀ d ∈ (48 + y % 10) :: acc, 48 ≤ d ∧ d ≤ 57 := by
      intro d hd
      rcases List.mem_cons.1 hd with rfl | h
      · omega
      · exact ha d h
    by_cases h0 : y / 10 = 0
    · rw [decF_stop h0]
      refine ⟨ha', ?_, ⟨_, _, rfl, fun h => by omega, Nat.le_refl _⟩, fun h => by rw [h]⟩
      rw [valT]
      congr 2
      omega
    · rw [decF_next h0]
      have hf : 0 < f := by
        rcases Nat.eq_zero_or_pos f with rfl | h
        · simp at hy; omega
        · exact h
      obtain ⟨i1, i2, ⟨h, t, i3, i4, i5⟩, i6⟩ := decF_facts f (y / 10) ((48 + y % 10) :: acc) hf (by rw [Nat.pow_succ] at hy; omega) ha'
      refine ⟨i1, ?_, ⟨h, t, i3, fun _ => i4 h0, by simp at i5; omega⟩, fun e => by subst e; simp at h0⟩
      rw [i2, valT, List.length_cons, Nat.pow_succ, show 48 + y % 10 - 48 = y % 10 by omega, Nat.mul_comm (10 ^ acc.length) 10, ← Nat.mul_assoc, ← Nat.add_assoc, ← Nat.add_mul]
      congr 2
      omega
theorem decL_tx {x : Nat} (hx : x < M) : Tx x (decL x) := by
  obtain ⟨i1, i2, ⟨h, t, i3, i4, _⟩, i6⟩ := decF_facts 39 x [] (by omega) (by unfold M at hx; omega) (by simp)
  refine ⟨i1, by unfold decL; simpa [valT] using i2, by unfold decL; rw [i3]; simp, fun e => ?_⟩
  unfold decL at *
  by_cases h0 : x = 0
  · exact i6 h0
  · rw [i3] at e
    simp at e
    exact absurd e (i4 h0)
theorem Tx.low {x : Nat} {l : List Nat} (T : Tx x l) : x < 10 ^ l.length := by rw [← T.val]; exact valT_lt T.dig
theorem Tx.high {x : Nat} {l : List Nat} (T : Tx x l) (h : 1 < l.length) : 10 ^ (l.length - 1) ≤ x := by
  obtain ⟨h1, h2, h3, h4⟩ := T
  match l with
  | [] => simp at h
  | d :: r =>
    have hd := h1 d (by simp)
    have hne : d ≠ 48 := by
      intro e
      subst e
      have := h4 rfl
      simp at this
      subst this
      simp at h
    rw [valT] at h2
    have : 1 * 10 ^ r.length ≤ (d - 48) * 10 ^ r.length := Nat.mul_le_mul_right _ (by omega)
    simp only [List.length_cons, Nat.add_sub_cancel]
    omega
/-- Bytes in their order. -/
def lessN : List Nat → List Nat → Bool
  | _, [] => false
  | [], _ :: _ => true
  | a :: x, b :: y => decide (a < b) || (a == b && lessN x y)
theorem lessN_val : ∀ {l m : List Nat}, l.length = m.length → (∀ d ∈ l, 48 ≤ d ∧ d ≤ 57) → (∀ d ∈ m, 48 ≤ d ∧ d ≤ 57) → (lessN l m = true ↔ valT l < valT m)
  | [], [], _, _, _ => by simp [lessN, valT]
  | a :: x, b :: y, hl, h1, h2 => by
    have hl' : x.length = y.length := by simpa using hl
    have ih := lessN_val hl' (fun d hd => h1 d (by simp [hd])) (fun d hd => h2 d (by simp [hd]))
    have vx := valT_lt (l := x) fun d hd => h1 d (by simp [hd])
    have vy := valT_lt (l := y) fun d hd => h2 d (by simp [hd])
    have ha := h1 a (by simp)
    have hb := h2 b (by simp)
    rw [lessN, valT, valT]
    simp only [Bool.or_eq_true, decide_eq_true_eq, Bool.and_eq_true, beq_iff_eq, ih]
    rw [← hl'] at vy ⊢
    generalize 10 ^ x.length = p at *
    rcases Nat.lt_trichotomy a b with h | h | h
    · have : (a - 48 + 1) * p ≤ (b - 48) * p := Nat.mul_le_mul_right _ (by omega)
      rw [Nat.add_mul] at this
      constructor
      · intro _; omega
      · intro _; exact Or.inl h
    · subst h
      constructor
      · rintro (h | ⟨_, h⟩)
        · omega
        · omega
      · intro h
        exact Or.inr ⟨rfl, by omega⟩
    · have : (b - 48 + 1) * p ≤ (a - 48) * p := Nat.mul_le_mul_right _ (by omega)
      rw [Nat.add_mul] at this
      constructor
      · rintro (h | ⟨h, _⟩) <;> omega
      · intro h; omega
  | [], _ :: _, h, _, _ => by simp at h
  | _ :: _, [], h, _, _ => by simp at h
theorem Tx.shorter {x y : Nat} {l m : List Nat} (T : Tx x l) (U : Tx y m) (h : l.length < m.length) : x < y := by
  have h1 := T.low
  have h2 := U.high (by have := T.pos; omega)
  have h3 : 10 ^ l.length ≤ 10 ^ (m.length - 1) := Nat.pow_le_pow_right (by omega) (by omega)
  omega
/-- The longer text is the greater number; of as many digits the greater text. -/
theorem Tx.lt_iff {x y : Nat} {l m : List Nat} (T : Tx x l) (U : Tx y m) : x < y ↔ l.length < m.length ∨ l.length = m.length ∧ lessN l m = true := by
  rcases Nat.lt_trichotomy l.length m.length with h | h | h
  · exact ⟨fun _ => Or.inl h, fun _ => T.shorter U h⟩
  · rw [lessN_val h T.dig U.dig, T.val, U.val]
    constructor
    · intro h'; exact Or.inr ⟨h, h'⟩
    · rintro (h' | ⟨_, h'⟩)
      · omega
      · exact h'
  · have := U.shorter T h
    constructor
    · intro h'; omega
    · rintro (h' | ⟨h', _⟩) <;> omega
theorem Tx.eq_iff {x y : Nat} {l m : List Nat} (T : Tx x l) (U : Tx y m) : l = m ↔ x = y := by
  constructor
  · rintro rfl; rw [← T.val, U.val]
  · rintro rfl
    have hl : l.length = m.length := by
      rcases Nat.lt_trichotomy l.length m.length with h | h | h
      · have := T.shorter U h; omega
      · exact h
      · have := U.shorter T h; omega
    have key : ∀ (l m : List Nat), l.length = m.length → (∀ d ∈ l, 48 ≤ d ∧ d ≤ 57) → (∀ d ∈ m, 48 ≤ d ∧ d ≤ 57) → valT l = valT m → l = m := by
      intro l
      induction l with
      | nil => intro m h _ _ _; exact (List.eq_nil_of_length_eq_zero (by simpa using h.symm)).symm
      | cons a r ih =>
        intro m h h1 h2 hv
        match m with
        | [] => simp at h
        | b :: q =>
          have hl' : r.length = q.length := by simpa using h
          have vx := valT_lt (l := r) fun d hd => h1 d (by simp [hd])
          have vy := valT_lt (l := q) fun d hd => h2 d (by simp [hd])
          have ha := h1 a (by simp)
          have hb := h2 b (by simp)
          rw [valT, valT] at hv
          rw [← hl'] at vy hv
          generalize 10 ^ r.length = p at *
          have hab : a = b := by
            rcases Nat.lt_trichotomy a b with h | h | h
            · have : (a - 48 + 1) * p ≤ (b - 48) * p := Nat.mul_le_mul_right _ (by omega)
              rw [Nat.add_mul] at this; omega
            · exact h
            · have : (b - 48 + 1) * p ≤ (a - 48) * p := Nat.mul_le_mul_right _ (by omega)
              rw [Nat.add_mul] at this; omega
          subst hab
          rw [ih q hl' (fun d hd => h1 d (by simp [hd])) (fun d hd => h2 d (by simp [hd])) (by omega)]
    exact key l m hl T.dig U.dig (T.val.trans U.val.symm)

/-- Texts as strings. -/
theorem bstr_toList (l : List Nat) : (Ssb.bstr l).toList = l.map UInt8.ofNat := by
  unfold Ssb.bstr strOfNums
  rw [ByteArray.toList_mk, List.map_map]
  rfl
theorem bstr_size (l : List Nat) : (Ssb.bstr l).size = l.length := by
  unfold Ssb.bstr
  rw [strOfNums_size]; simp
theorem bytesLess_map : ∀ {l m : List Nat}, (∀ d ∈ l, d < 256) → (∀ d ∈ m, d < 256) → Op.bytesLess (l.map UInt8.ofNat) (m.map UInt8.ofNat) = lessN l m
  | [], [], _, _ => rfl
  | a :: x, [], _, _ => rfl
  | [], b :: y, _, _ => rfl
  | a :: x, b :: y, h1, h2 => by
    have ih := bytesLess_map (l := x) (m := y) (fun d hd => h1 d (by simp [hd])) (fun d hd => h2 d (by simp [hd]))
    have ha := h1 a (by simp)
    have hb := h2 b (by simp)
    rw [List.map_cons, List.map_cons, Op.bytesLess, lessN, ih]
    have e1 : (decide (UInt8.ofNat a < UInt8.ofNat b)) = decide (a < b) := by
      rw [decide_eq_decide, UInt8.lt_iff_toNat_lt, UInt8.toNat_ofNat_of_lt' (by simpa using ha), UInt8.toNat_ofNat_of_lt' (by simpa using hb)]
    have e2 : (UInt8.ofNat a == UInt8.ofNat b) = (a == b) := by
      rw [Bool.eq_iff_iff, beq_iff_eq, beq_iff_eq]
      constructor
      · intro h
        have := congrArg UInt8.toNat h
        rwa [UInt8.toNat_ofNat_of_lt' (by simpa using ha), UInt8.toNat_ofNat_of_lt' (by simpa using hb)] at this
      · rintro rfl; rfl
    rw [e1, e2]
theorem map_u8_eq : ∀ {l m : List Nat}, (∀ d ∈ l, d < 256) → (∀ d ∈ m, d < 256) → ((l.map UInt8.ofNat == m.map UInt8.ofNat) = decide (l = m))
  | [], [], _, _ => rfl
  | a :: x, [], _, _ => rfl
  | [], b :: y, _, _ => rfl
  | a :: x, b :: y, h1, h2 => by
    have ih := map_u8_eq (l := x) (m := y) (fun d hd => h1 d (by simp [hd])) (fun d hd => h2 d (by simp [hd]))
    have ha := h1 a (by simp)
    have hb := h2 b (by simp)
    have e2 : (UInt8.ofNat a == UInt8.ofNat b) = (a == b) := by
      rw [Bool.eq_iff_iff, beq_iff_eq, beq_iff_eq]
      constructor
      · intro h
        have := congrArg UInt8.toNat h
        rwa [UInt8.toNat_ofNat_of_lt' (by simpa using ha), UInt8.toNat_ofNat_of_lt' (by simpa using hb)] at this
      · rintro rfl; rfl
    rw [List.map_cons, List.map_cons, List.cons_beq_cons, ih, e2, Bool.eq_iff_iff]
    simp
/-- -1, 0, 1. -/
def cmpZ (x y : Nat) : Int := if x < y then -1 else if x = y then 0 else 1
theorem cmpZ_lt {x y : Nat} (h : x < y) : cmpZ x y = -1 := by unfold cmpZ; rw [if_pos h]
theorem cmpZ_eq (x : Nat) : cmpZ x x = 0 := by unfold cmpZ; rw [if_neg (by omega), if_pos rfl]
theorem cmpZ_gt {x y : Nat} (h : y < x) : cmpZ x y = 1 := by unfold cmpZ; rw [if_neg (by omega), if_neg (by omega)]
theorem cmpZ_neg (x y : Nat) : cmpZ x y = - cmpZ y x := by
  rcases Nat.lt_trichotomy x y with h | h | h
  · rw [cmpZ_lt h, cmpZ_gt h]
  · subst h; rw [cmpZ_eq]; rfl
  · rw [cmpZ_gt h, cmpZ_lt h]; rfl

/-- Long division by ten: what is left above digit i, and the digits so far of the tenth. -/
def restT (y i : Nat) : Nat := y / 65536 ^ i % 10
def tenSt (y i : Nat) : List Nat := (List.range 8).map fun j => if i ≤ j then digit (y / 10) j else digit y j
def someT (y i : Nat) : Bool := (List.range 8).any fun j => decide (i ≤ j) && decide (0 < digit (y / 10) j)
theorem tenSt_length (y i : Nat) : (tenSt y i).length = 8 := by simp [tenSt]
theorem tenSt_top (y : Nat) : tenSt y 8 = bigL y := by
  unfold tenSt bigL
  apply List.map_congr_left
  intro j hj
  rw [if_neg (by have := List.mem_range.1 hj; omega)]
theorem tenSt_all (y : Nat) : tenSt y 0 = bigL (y / 10) := by
  unfold tenSt bigL
  apply List.map_congr_left
  intro j _
  rw [if_pos (Nat.zero_le _)]
theorem tenSt_get (y : Nat) {i : Nat} (hi : i < 8) : (tenSt y (i + 1))[i]? = some (digit y i) := by
  simp only [tenSt, List.getElem?_map, List.getElem?_range hi, Option.map_some]
  rw [if_neg (by omega)]
theorem ten_digit (y i : Nat) : (restT y (i + 1) * 65536 + digit y i) / 10 = digit (y / 10) i ∧ (restT y (i + 1) * 65536 + digit y i) % 10 = restT y i := by
  unfold restT digit
  rw [Nat.pow_succ, ← Nat.div_div_eq_div_mul, Nat.div_div_eq_div_mul y 10, Nat.mul_comm 10, ← Nat.div_div_eq_div_mul]
  generalize y / 65536 ^ i = q
  omega
theorem tenSt_step (y : Nat) {i : Nat} (hi : i < 8) : (tenSt y (i + 1)).set i (digit (y / 10) i) = tenSt y i := by
  apply List.ext_getElem?
  intro j
  rw [List.getElem?_set, tenSt_length]
  by_cases hj : j < 8
  · simp only [tenSt, List.getElem?_map, List.getElem?_range hj, Option.map_some]
    by_cases e : i = j
    · subst e
      rw [if_pos rfl, if_pos hi, if_pos (Nat.le_refl _)]
    · rw [if_neg e]
      by_cases h1 : i < j
      · rw [if_pos (by omega), if_pos (by omega)]
      · rw [if_neg (by omega), if_neg (by omega)]
  · rw [List.getElem?_eq_none (by rw [tenSt_length]; omega), List.getElem?_eq_none (by rw [tenSt_length]; omega), if_neg (by omega)]
theorem someT_top (y : Nat) : someT y 8 = false := by
  simp only [someT, List.any_eq_false, List.mem_range, Bool.and_eq_true, decide_eq_true_eq]
  omega
theorem someT_step (y : Nat) {i : Nat} (hi : i < 8) : someT y i = (someT y (i + 1) || decide (0 < digit (y / 10) i)) := by
  rw [Bool.eq_iff_iff]
  simp only [someT, List.any_eq_true, List.mem_range, Bool.and_eq_true, decide_eq_true_eq, Bool.or_eq_true]
  constructor
  · rintro ⟨j, h1, h2, h3⟩
    by_cases e : i = j
    · subst e; exact Or.inr h3
    · exact Or.inl ⟨j, h1, by omega, h3⟩
  · rintro (⟨j, h1, h2, h3⟩ | h)
    · exact ⟨j, h1, by omega, h3⟩
    · exact ⟨i, hi, Nat.le_refl _, h⟩
theorem someT_all {y : Nat} (hy : y < M) : someT y 0 = decide (y / 10 ≠ 0) := by
  rw [Bool.eq_iff_iff]
  simp only [someT, List.any_eq_true, List.mem_range, Bool.and_eq_true, decide_eq_true_eq]
  constructor
  · rintro ⟨j, _, _, h⟩ e
    rw [e] at h
    simp [digit] at h
  · intro h
    apply Classical.byContradiction
    intro hn
    apply h
    have e : bigL (y / 10) = bigL 0 := by
      unfold bigL
      apply List.map_congr_left
      intro j hj
      have hj' := List.mem_range.1 hj
      have : ¬ 0 < digit (y / 10) j := fun h' => hn ⟨j, hj', Nat.zero_le _, h'⟩
      have h0 : digit 0 j = 0 := by simp [digit]
      omega
    have e2 := congrArg valB e
    rw [valB_bigL, valB_bigL, Nat.zero_mod, Nat.mod_eq_of_lt (by omega)] at e2
    exact e2
theorem restT_top {y : Nat} (hy : y < M) : restT y 8 = 0 := by
  unfold restT
  rw [Nat.div_eq_of_lt (by rw [show 65536 ^ 8 = M from rfl]; exact hy)]
theorem restT_zero (y : Nat) : restT y 0 = y % 10 := by simp [restT]
theorem restT_lt (y i : Nat) : restT y i < 10 := Nat.mod_lt _ (by omega)
end Wd
end Go.Proofs.YtegegfoogkpncaaDoor
