/-
  Seeds as numbers: 32 bytes as four numbers of 56 bits and one of 32, the lowest byte first. Plain mathematics: nothing of the program.
-/
import Derived.Test.YtdnnpomnjblaeaaDoorMem
namespace Go.Proofs.YtdnnpomnjblaeaaDoor
set_option linter.unusedVariables false
namespace Limb

/-- The number of some bytes, the lowest first. -/
def leN : List Nat → Nat
  | [] => 0
  | b :: r => b + 256 * leN r
theorem leN_lt : ∀ {l : List Nat}, (∀ b ∈ l, b < 256) → leN l < 256 ^ l.length
  | [], _ => by simp [leN]
  | b :: r, h => by
    have ih := leN_lt (l := r) fun x hx => h x (by simp [hx])
    have hb := h b (by simp)
    rw [leN, List.length_cons, Nat.pow_succ]
    omega
/-- Byte j of a number. -/
def byteN (n j : Nat) : Nat := n / 256 ^ j % 256
theorem byteN_lt (n j : Nat) : byteN n j < 256 := Nat.mod_lt _ (by omega)
theorem byteN_leN : ∀ {l : List Nat}, (∀ b ∈ l, b < 256) → ∀ j, byteN (leN l) j = l.getD j 0
  | [], _, j => by simp [leN, byteN]
  | b :: r, h, 0 => by
    have hb := h b (by simp)
    simp [leN, byteN]
    omega
  | b :: r, h, j + 1 => by
    have ih := byteN_leN (l := r) (fun x hx => h x (by simp [hx])) j
    have hb := h b (by simp)
    have e : (b + 256 * leN r) / 256 ^ (j + 1) = leN r / 256 ^ j := by
      rw [Nat.pow_succ', ← Nat.div_div_eq_div_mul]
      congr 1
      omega
    unfold byteN at *
    rw [leN, e, ih]
    simp
/-- A number's first bytes. -/
def bytesN (n k : Nat) : List Nat := (List.range k).map (byteN n)
theorem bytesN_length (n k : Nat) : (bytesN n k).length = k := by simp [bytesN]
theorem bytesN_lt (n k : Nat) : ∀ b ∈ bytesN n k, b < 256 := by
  intro b hb
  obtain ⟨j, _, rfl⟩ := List.mem_map.1 hb
  exact byteN_lt _ _
theorem leN_bytesN : ∀ (k n : Nat), n < 256 ^ k → leN (bytesN n k) = n
  | 0, n, h => by simp at h; simp [bytesN, leN, h]
  | k + 1, n, h => by
    have e : bytesN n (k + 1) = n % 256 :: bytesN (n / 256) k := by
      unfold bytesN
      rw [List.range_succ_eq_map, List.map_cons, List.map_map]
      congr 1
      · simp [byteN]
      · apply List.map_congr_left
        intro j _
        simp only [Function.comp, byteN, Nat.succ_eq_add_one]
        rw [Nat.pow_succ', ← Nat.div_div_eq_div_mul]
    have ih := leN_bytesN k (n / 256) (by rw [Nat.pow_succ] at h; omega)
    rw [e, leN, ih]
    omega

/-- What stands of the numbers when all bytes from i on have come. -/
def cutFrom (s : List Nat) (i : Nat) : List Nat := (List.range 5).map fun j => leN ((s.take (7 * j + 7)).drop (max (7 * j) i))
def cutL (s : List Nat) : List Nat := (List.range 5).map fun j => leN ((s.take (7 * j + 7)).drop (7 * j))
theorem cutFrom_zero (s : List Nat) : cutFrom s 0 = cutL s := by simp [cutFrom, cutL]
theorem cutFrom_length (s : List Nat) (i : Nat) : (cutFrom s i).length = 5 := by simp [cutFrom]
theorem cutL_length (s : List Nat) : (cutL s).length = 5 := by simp [cutL]
theorem cutFrom_get (s : List Nat) (i : Nat) {j : Nat} (hj : j < 5) : (cutFrom s i)[j]? = some (leN ((s.take (7 * j + 7)).drop (max (7 * j) i))) := by simp [cutFrom, hj]
theorem cutL_get (s : List Nat) {j : Nat} (hj : j < 5) : (cutL s)[j]? = some (leN ((s.take (7 * j + 7)).drop (7 * j))) := by simp [cutL, hj]
theorem cutFrom_end {s : List Nat} (hs : s.length = 32) : cutFrom s 32 = [0, 0, 0, 0, 0] := by
  have : ∀ j, leN ((s.take (7 * j + 7)).drop (max (7 * j) 32)) = 0 := fun j => by
    rw [List.drop_eq_nil_of_le (by rw [List.length_take]; omega)]; rfl
  simp [cutFrom, this, List.range_succ]
theorem part_lt {s : List Nat} (hb : ∀ b ∈ s, b < 256) (j m : Nat) (hm : 7 * j ≤ m) : leN ((s.take (7 * j + 7)).drop m) < 72057594037927936 := by
  have h := leN_lt (l := (s.take (7 * j + 7)).drop m) fun b hx => hb b (List.mem_of_mem_take (List.mem_of_mem_drop hx))
  have hl : ((s.take (7 * j + 7)).drop m).length ≤ 7 := by rw [List.length_drop, List.length_take]; omega
  have := Nat.pow_le_pow_right (show 0 < 256 by omega) hl
  exact Nat.lt_of_lt_of_le h (by simpa using this)
theorem cutL_lt {s : List Nat} (hb : ∀ b ∈ s, b < 256) : ∀ y ∈ cutL s, y < 72057594037927936 := by
  intro y hy
  obtain ⟨j, _, rfl⟩ := List.mem_map.1 hy
  exact part_lt hb j _ (Nat.le_refl _)
theorem cutFrom_lt {s : List Nat} (hb : ∀ b ∈ s, b < 256) (i : Nat) : ∀ y ∈ cutFrom s i, y < 72057594037927936 := by
  intro y hy
  obtain ⟨j, _, rfl⟩ := List.mem_map.1 hy
  exact part_lt hb j _ (by omega)
/-- One byte more. -/
theorem cutFrom_step {s : List Nat} {i b y : Nat} (hi : s[i]? = some b) (hl : i < 35) (hy : (cutFrom s (i + 1))[i / 7]? = some y) : (cutFrom s (i + 1)).set (i / 7) (y * 256 + b) = cutFrom s i := by
  have hq : i / 7 < 5 := by omega
  have hil : i < s.length := (List.getElem?_eq_some_iff.1 hi).1
  rw [cutFrom_get s (i + 1) hq] at hy
  have hy' := Option.some.inj hy
  apply List.ext_getElem?
  intro j
  rw [List.getElem?_set]
  by_cases hj : j < 5
  · rw [cutFrom_get s i hj, cutFrom_length]
    by_cases e : i / 7 = j
    · rw [if_pos e, if_pos (by omega)]
      subst e
      rw [← hy']
      have e1 : max (7 * (i / 7)) i = i := by omega
      have e2 : max (7 * (i / 7)) (i + 1) = i + 1 := by omega
      rw [e1, e2]
      have hit : i < (s.take (7 * (i / 7) + 7)).length := by rw [List.length_take]; omega
      rw [List.drop_eq_getElem_cons hit, leN]
      have : (s.take (7 * (i / 7) + 7))[i] = b := by
        have := (List.getElem?_eq_some_iff.1 hi).2
        simp [this]
      rw [this]
      congr 1
      omega
    · rw [if_neg e, cutFrom_get s (i + 1) hj]
      by_cases h1 : i < 7 * j
      · rw [show max (7 * j) (i + 1) = max (7 * j) i by omega]
      · rw [List.drop_eq_nil_of_le (by rw [List.length_take]; omega), List.drop_eq_nil_of_le (by rw [List.length_take]; omega)]
  · rw [List.getElem?_eq_none (by rw [cutFrom_length]; omega), List.getElem?_eq_none (by rw [cutFrom_length]; omega)]
    split
    · rename_i e; omega
    · rfl

/-- The bytes of five numbers. -/
def glueL (l : List Nat) : List Nat := (List.range 32).map fun i => byteN (l.getD (i / 7) 0) (i % 7)
theorem glueL_length (l : List Nat) : (glueL l).length = 32 := by simp [glueL]
theorem glueL_lt (l : List Nat) : ∀ b ∈ glueL l, b < 256 := by
  intro b hb
  obtain ⟨j, _, rfl⟩ := List.mem_map.1 hb
  exact byteN_lt _ _
theorem glueL_get (l : List Nat) {i : Nat} (hi : i < 32) : (glueL l)[i]? = some (byteN (l.getD (i / 7) 0) (i % 7)) := by simp [glueL, hi]
/-- None is too great. -/
def top (j : Nat) : Nat := if j < 4 then 72057594037927936 else 4294967296
def glueOk (l : List Nat) : Bool := (List.range 5).all fun j => decide (l.getD j 0 < top j)
theorem glueOk_iff (l : List Nat) : glueOk l = true ↔ ∀ j, j < 5 → l.getD j 0 < top j := by simp [glueOk]
def glueS (l : List Nat) : List Nat := if glueOk l = true then glueL l else List.replicate 32 0
def glueE (l : List Nat) : Nat := if glueOk l = true then 0 else 4
theorem glueS_length (l : List Nat) : (glueS l).length = 32 := by unfold glueS; split <;> simp [glueL_length]
theorem glueS_lt (l : List Nat) : ∀ b ∈ glueS l, b < 256 := by
  unfold glueS
  split
  · exact glueL_lt l
  · intro b hb; rw [List.eq_of_mem_replicate hb]; omega

theorem cut_ok {s : List Nat} (hs : s.length = 32) (hb : ∀ b ∈ s, b < 256) : glueOk (cutL s) = true := by
  rw [glueOk_iff]
  intro j hj
  rw [List.getD_eq_getElem?_getD, cutL_get s hj, Option.getD_some]
  unfold top
  split
  · exact part_lt hb j _ (Nat.le_refl _)
  · obtain rfl : j = 4 := by omega
    have h := leN_lt (l := (s.take (7 * 4 + 7)).drop (7 * 4)) fun b hx => hb b (List.mem_of_mem_take (List.mem_of_mem_drop hx))
    have hl : ((s.take (7 * 4 + 7)).drop (7 * 4)).length = 4 := by rw [List.length_drop, List.length_take]; omega
    rw [hl] at h
    simpa using h
/-- What was cut is glued. -/
theorem glue_cut {s : List Nat} (hs : s.length = 32) (hb : ∀ b ∈ s, b < 256) : glueL (cutL s) = s := by
  apply List.ext_getElem?
  intro i
  by_cases hi : i < 32
  · rw [glueL_get _ hi, List.getD_eq_getElem?_getD, cutL_get s (show i / 7 < 5 by omega), Option.getD_some, byteN_leN (fun b hx => hb b (List.mem_of_mem_take (List.mem_of_mem_drop hx)))]
    rw [List.getElem?_eq_getElem (by omega), List.getD_eq_getElem?_getD, List.getElem?_drop, List.getElem?_take, if_pos (by omega), show 7 * (i / 7) + i % 7 = i by omega, List.getElem?_eq_getElem (by omega)]
    rfl
  · rw [List.getElem?_eq_none (by rw [glueL_length]; omega), List.getElem?_eq_none (by omega)]
/-- What was glued is cut. -/
theorem cut_glue {l : List Nat} (hl : l.length = 5) (h : glueOk l = true) : cutL (glueL l) = l := by
  rw [glueOk_iff] at h
  apply List.ext_getElem?
  intro j
  by_cases hj : j < 5
  · rw [cutL_get _ hj, List.getElem?_eq_getElem (by omega)]
    have hj' := h j hj
    rw [List.getD_eq_getElem?_getD, List.getElem?_eq_getElem (by omega), Option.getD_some] at hj'
    congr 1
    obtain ⟨k, hk, hk7, htop⟩ : ∃ k, ((glueL l).take (7 * j + 7)).drop (7 * j) = bytesN l[j] k ∧ k ≤ 7 ∧ l[j] < 256 ^ k := by
      refine ⟨min 7 (32 - 7 * j), ?_, by omega, ?_⟩
      · apply List.ext_getElem?
        intro i
        by_cases hi : i < min 7 (32 - 7 * j)
        · rw [List.getElem?_drop, List.getElem?_take, if_pos (by omega), glueL_get _ (by omega), show (7 * j + i) / 7 = j by omega, show (7 * j + i) % 7 = i by omega, List.getD_eq_getElem?_getD, List.getElem?_eq_getElem (by omega), Option.getD_some]
          simp only [bytesN, List.getElem?_map, List.getElem?_range hi, Option.map_some]
        · rw [List.getElem?_eq_none (by rw [List.length_drop, List.length_take, glueL_length]; omega), List.getElem?_eq_none (by rw [bytesN_length]; omega)]
      · unfold top at hj'
        split at hj'
        · rw [show min 7 (32 - 7 * j) = 7 by omega]; simpa using hj'
        · rw [show min 7 (32 - 7 * j) = 4 by omega]; simpa using hj'
    rw [hk, leN_bytesN k _ htop]
  · rw [List.getElem?_eq_none (by rw [cutL_length]; omega), List.getElem?_eq_none (by omega)]
theorem cut_inj {s t : List Nat} (hs : s.length = 32) (ht : t.length = 32) (bs : ∀ b ∈ s, b < 256) (bt : ∀ b ∈ t, b < 256) : cutL s = cutL t ↔ s = t := by
  constructor
  · intro h
    rw [← glue_cut hs bs, h, glue_cut ht bt]
  · rintro rfl; rfl
end Limb
end Go.Proofs.YtdnnpomnjblaeaaDoor
