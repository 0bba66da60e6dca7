/-
  Values as bytes, the lowest first, and back; bytes under a parcel's stream. Plain mathematics: nothing of the program.
-/
import Derived.Test.YtdnnpomnjblaeaaDoorSeeds
import Derived.Test.YtdnnpomnjblaeaaDoorLimb
import Derived.Laws.Bits64b
namespace Go.Proofs.YtdnnpomnjblaeaaDoor
open Go.RowKit Cha Limb
set_option linter.unusedVariables false
namespace Sl

/-- Byte i of the values. -/
def wB (xs : List Nat) (i : Nat) : Nat := lowB (xs.getD (i / 8) 0) (i % 8)
/-- Values of eight bytes each. -/
def wr8 (xs : List Nat) : List Nat := (List.range (8 * xs.length)).map (wB xs)
/-- The values that are written so. -/
def rd8 (bs : List Nat) : List Nat := (List.range (bs.length / 8)).map fun j => leN ((bs.drop (8 * j)).take 8)
/-- What stands of the values when the first i bytes have come. -/
def rdTo (bs : List Nat) (i : Nat) : List Nat := (List.range (bs.length / 8)).map fun j => leN (((bs.take i).drop (8 * j)).take 8)
/-- All are below P. -/
def belowP (xs : List Nat) : Bool := xs.all fun x => decide (x < 2305843009213693951)

theorem wB_lt (xs : List Nat) (i : Nat) : wB xs i < 256 := Nat.mod_lt _ (by omega)
theorem wr8_length (xs : List Nat) : (wr8 xs).length = 8 * xs.length := by simp [wr8]
theorem wr8_lt (xs : List Nat) : ∀ b ∈ wr8 xs, b < 256 := by
  intro b hb
  obtain ⟨j, _, rfl⟩ := List.mem_map.1 hb
  exact wB_lt _ _
theorem wr8_get (xs : List Nat) {i : Nat} (hi : i < 8 * xs.length) : (wr8 xs)[i]? = some (wB xs i) := by simp [wr8, hi]
theorem wB_eq {xs : List Nat} {i x : Nat} (hx : xs[i / 8]? = some x) : wB xs i = x / 2 ^ (8 * (i % 8)) % 256 := by
  unfold wB lowB
  rw [List.getD_eq_getElem?_getD, hx, Option.getD_some]
theorem rd8_length (bs : List Nat) : (rd8 bs).length = bs.length / 8 := by simp [rd8]
theorem rdTo_length (bs : List Nat) (i : Nat) : (rdTo bs i).length = bs.length / 8 := by simp [rdTo]
theorem rd8_get (bs : List Nat) {j : Nat} (hj : j < bs.length / 8) : (rd8 bs)[j]? = some (leN ((bs.drop (8 * j)).take 8)) := by simp [rd8, hj]
theorem rdTo_get (bs : List Nat) (i : Nat) {j : Nat} (hj : j < bs.length / 8) : (rdTo bs i)[j]? = some (leN (((bs.take i).drop (8 * j)).take 8)) := by simp [rdTo, hj]
theorem rdTo_zero (bs : List Nat) : rdTo bs 0 = List.replicate (bs.length / 8) 0 := by
  apply List.ext_getElem?
  intro j
  by_cases hj : j < bs.length / 8
  · rw [rdTo_get bs 0 hj, List.getElem?_replicate, if_pos hj]
    simp [leN]
  · rw [List.getElem?_eq_none (by rw [rdTo_length]; omega), List.getElem?_eq_none (by rw [List.length_replicate]; omega)]
theorem rdTo_all (bs : List Nat) : rdTo bs bs.length = rd8 bs := by
  unfold rdTo rd8
  rw [List.take_length]
theorem le8_lt {bs : List Nat} (hb : ∀ b ∈ bs, b < 256) (m : Nat) : leN ((bs.drop m).take 8) < 18446744073709551616 := by
  have h := leN_lt (l := (bs.drop m).take 8) fun b hx => hb b (List.mem_of_mem_drop (List.mem_of_mem_take hx))
  have hl : ((bs.drop m).take 8).length ≤ 8 := by rw [List.length_take]; omega
  have := Nat.pow_le_pow_right (show 0 < 256 by omega) hl
  exact Nat.lt_of_lt_of_le h (by simpa using this)
theorem rd8_lt {bs : List Nat} (hb : ∀ b ∈ bs, b < 256) : ∀ y ∈ rd8 bs, y < 18446744073709551616 := by
  intro y hy
  obtain ⟨j, _, rfl⟩ := List.mem_map.1 hy
  exact le8_lt hb _
theorem snoc8 : ∀ (xs : List Nat) (b : Nat), leN (xs ++ [b]) = leN xs + b * 256 ^ xs.length
  | [], b => by simp [leN]
  | x :: xs, b => by
    rw [List.cons_append, leN, snoc8 xs b, leN, List.length_cons, Nat.pow_succ, Nat.mul_add, Nat.add_assoc]
    congr 2
    rw [← Nat.mul_assoc, ← Nat.mul_assoc, Nat.mul_comm 256 b, Nat.mul_assoc, Nat.mul_assoc, Nat.mul_comm 256]
/-- One byte more, above the others. -/
theorem rdTo_step {s : List Nat} (hb : ∀ b ∈ s, b < 256) {i b y : Nat} (hi : s[i]? = some b) (hq : i / 8 < s.length / 8) (hy : (rdTo s i)[i / 8]? = some y) :
    y < 2 ^ (8 * (i % 8)) ∧ (rdTo s i).set (i / 8) (y + b * 2 ^ (8 * (i % 8))) = rdTo s (i + 1) := by
  have hil : i < s.length := (List.getElem?_eq_some_iff.1 hi).1
  rw [rdTo_get s i hq] at hy
  have hy' := Option.some.inj hy
  have hlen : ((s.take i).drop (8 * (i / 8))).length = i % 8 := by
    rw [List.length_drop, List.length_take]; omega
  have h8 : ((s.take i).drop (8 * (i / 8))).take 8 = (s.take i).drop (8 * (i / 8)) := List.take_of_length_le (by omega)
  have hp : (2 : Nat) ^ (8 * (i % 8)) = 256 ^ (i % 8) := by rw [Nat.pow_mul]
  refine ⟨?_, ?_⟩
  · have := leN_lt (l := (s.take i).drop (8 * (i / 8))) fun b hx => hb b (List.mem_of_mem_take (List.mem_of_mem_drop hx))
    rw [h8] at hy'
    rw [hlen, hy'] at this
    rw [hp]; exact this
  · apply List.ext_getElem?
    intro j
    rw [List.getElem?_set]
    by_cases hj : j < s.length / 8
    · rw [rdTo_get s (i + 1) hj, rdTo_length]
      by_cases e : i / 8 = j
      · rw [if_pos e, if_pos (by omega)]
        subst e
        have hg : s[i] = b := (List.getElem?_eq_some_iff.1 hi).2
        rw [List.take_succ_eq_append_getElem hil, hg, List.drop_append_of_le_length (by rw [List.length_take]; omega), List.take_of_length_le (i := 8) (by rw [List.length_append, hlen]; simp; omega), snoc8, hlen]
        rw [h8] at hy'
        rw [hy', hp]
      · rw [if_neg e, rdTo_get s i hj]
        by_cases h1 : i < 8 * j
        · rw [List.drop_eq_nil_of_le (by rw [List.length_take]; omega), List.drop_eq_nil_of_le (by rw [List.length_take]; omega)]
        · rw [List.drop_take, List.drop_take, List.take_take, List.take_take, Nat.min_eq_left (by omega), Nat.min_eq_left (by omega)]
    · rw [List.getElem?_eq_none (by rw [rdTo_length]; omega), List.getElem?_eq_none (by rw [rdTo_length]; omega)]
      split
      · rename_i e; omega
      · rfl
theorem shl_or8 {y b c z : Nat} (hb : b < 256) (hc : c ≤ 56) (hy : y < 2 ^ c) (hz : z = b * 2 ^ c) : IntKind.u64.wrap ((b : Int) * 2 ^ c) = (z : Int) ∧ bits .or .u64 (y : Int) (z : Int) = ((y + z : Nat) : Int) := by
  have hp : (2 : Nat) ^ c ≤ 2 ^ 56 := Nat.pow_le_pow_right (by omega) hc
  have hzl : z < 18446744073709551616 := by
    rw [hz]
    have : b * 2 ^ c ≤ 255 * 2 ^ 56 := Nat.mul_le_mul (by omega) hp
    exact Nat.lt_of_le_of_lt this (by decide)
  have hyl : y < 18446744073709551616 := Nat.lt_of_lt_of_le hy (Nat.le_trans hp (by decide))
  constructor
  · have e : (b : Int) * 2 ^ c = ((z : Nat) : Int) := by rw [hz]; simp
    rw [e]
    show (z : Int) % 18446744073709551616 = z
    omega
  · rw [bits_or_u64_nat y z hyl hzl]
    have := Nat.shiftLeft_add_eq_or_of_lt hy b
    rw [Nat.shiftLeft_eq, ← hz, Nat.or_comm] at this
    rw [← this, Nat.add_comm]
theorem shr8 {y c z : Nat} (hz : z = y / 2 ^ c % 256) : IntKind.u8.wrap ((y : Int) / 2 ^ c) = (z : Int) := by
  show ((y : Int) / 2 ^ c) % 256 = z
  rw [hz, show (y : Int) / 2 ^ c = ((y / 2 ^ c : Nat) : Int) by simp]
  omega
theorem lo8_leN : ∀ {n : Nat}, n < 18446744073709551616 → leN (lo8 n) = n := by
  intro n h
  have e : lo8 n = bytesN n 8 := by
    unfold lo8 bytesN
    apply List.map_congr_left
    intro j _
    unfold lowB byteN
    rw [Nat.pow_mul]
  rw [e, leN_bytesN 8 n (by simpa using h)]
theorem wr8_drop (xs : List Nat) {j x : Nat} (hx : xs[j]? = some x) : ((wr8 xs).drop (8 * j)).take 8 = lo8 x := by
  have hj : j < xs.length := (List.getElem?_eq_some_iff.1 hx).1
  apply List.ext_getElem?
  intro i
  by_cases hi : i < 8
  · rw [List.getElem?_take, if_pos hi, List.getElem?_drop, wr8_get xs (by omega), wB_eq (x := x) (by rw [show (8 * j + i) / 8 = j by omega]; exact hx), show (8 * j + i) % 8 = i by omega]
    simp [lo8, hi, lowB]
  · rw [List.getElem?_eq_none (by rw [List.length_take]; omega), List.getElem?_eq_none (by rw [lo8_length]; omega)]
/-- What was written is read. -/
theorem rd8_wr8 {xs : List Nat} (h : ∀ x ∈ xs, x < 18446744073709551616) : rd8 (wr8 xs) = xs := by
  apply List.ext_getElem?
  intro j
  by_cases hj : j < xs.length
  · rw [rd8_get _ (by rw [wr8_length]; omega), List.getElem?_eq_getElem hj, wr8_drop xs (List.getElem?_eq_getElem hj), lo8_leN (h _ (List.getElem_mem hj))]
  · rw [List.getElem?_eq_none (by rw [rd8_length, wr8_length]; omega), List.getElem?_eq_none (by omega)]

/-- The tag of a way. -/
def tagN (f t : Nat) : Nat := 256 * f + t
/-- Bytes under the stream of a way, of the number that both agree on. -/
def hid (s f t : Nat) (bs : List Nat) : List Nat := Cha.xor (derive s 1) 0 (nonceOf (tagN f t)) bs
theorem hid_length (s f t : Nat) (bs : List Nat) : (hid s f t bs).length = bs.length := xor_len _ _ _ _
theorem hid_lt (s f t : Nat) {bs : List Nat} (hb : ∀ x ∈ bs, x < 256) : ∀ x ∈ hid s f t bs, x < 256 := xor_lt8 hb
theorem sl_at_xor (ks : List Nat) (c : Nat) (ns bs : List Nat) (i : Nat) (hi : i < bs.length) : at_ (Cha.xor ks c ns bs) i = at_ bs i ^^^ at_ (block ks (add c (i / 64)) ns) (i % 64) := by
  simp [at_, Cha.xor, hi]
theorem hid_hid (s f t : Nat) (bs : List Nat) : hid s f t (hid s f t bs) = bs := by
  apply List.ext_getElem
  · rw [hid_length, hid_length]
  · intro i h1 h2
    have e1 : at_ (hid s f t (hid s f t bs)) i = at_ bs i := by
      unfold hid
      rw [sl_at_xor _ _ _ _ _ (by rw [xor_len]; exact h2), sl_at_xor _ _ _ _ _ h2, Nat.xor_assoc, Nat.xor_self, Nat.xor_zero]
    simpa [at_, h1, h2] using e1
/-- The stream, and bytes laid over its first k. -/
def veilTo (s : List Nat) (t : Nat) (bs : List Nat) (k : Nat) : List Nat := (List.range bs.length).map fun i => if i < k then at_ bs i ^^^ sbyte s t i else sbyte s t i
theorem veilTo_length (s : List Nat) (t : Nat) (bs : List Nat) (k : Nat) : (veilTo s t bs k).length = bs.length := by simp [veilTo]
theorem veilTo_get (s : List Nat) (t : Nat) (bs : List Nat) (k : Nat) {i : Nat} (hi : i < bs.length) : (veilTo s t bs k)[i]? = some (if i < k then at_ bs i ^^^ sbyte s t i else sbyte s t i) := by simp [veilTo, hi]
theorem veilTo_zero (s : List Nat) (t : Nat) (bs : List Nat) : veilTo s t bs 0 = sbytes s t bs.length := by
  rw [sbytes_eq]
  unfold veilTo
  apply List.map_congr_left
  intro i _
  simp
theorem veilTo_all (s : List Nat) (t : Nat) (bs : List Nat) : veilTo s t bs bs.length = Cha.xor s 0 (nonceOf t) bs := by
  unfold veilTo Cha.xor
  apply List.map_congr_left
  intro i hi
  rw [if_pos (List.mem_range.1 hi)]
  rfl
theorem veilTo_step (s : List Nat) (t : Nat) {bs : List Nat} {k y b : Nat} (hb : bs[k]? = some b) (hy : (veilTo s t bs k)[k]? = some y) : (veilTo s t bs k).set k (y ^^^ b) = veilTo s t bs (k + 1) := by
  have hk : k < bs.length := (List.getElem?_eq_some_iff.1 hb).1
  rw [veilTo_get s t bs k hk, if_neg (Nat.lt_irrefl _)] at hy
  have hy' := Option.some.inj hy
  apply List.ext_getElem?
  intro j
  rw [List.getElem?_set, veilTo_length]
  by_cases hj : j < bs.length
  · rw [veilTo_get s t bs (k + 1) hj]
    by_cases e : k = j
    · subst e
      rw [if_pos rfl, if_pos hk, if_pos (by omega), ← hy', Nat.xor_comm]
      have : at_ bs k = b := by simp [at_, hb]
      rw [this]
    · rw [if_neg e, veilTo_get s t bs k hj]
      by_cases h1 : j < k
      · rw [if_pos h1, if_pos (by omega)]
      · rw [if_neg h1, if_neg (by omega)]
  · rw [List.getElem?_eq_none (by rw [veilTo_length]; omega), List.getElem?_eq_none (by rw [veilTo_length]; omega)]
    split
    · rename_i e; omega
    · rfl
theorem veilTo_lt (s : List Nat) (t : Nat) {bs : List Nat} (hb : ∀ x ∈ bs, x < 256) (k : Nat) : ∀ y ∈ veilTo s t bs k, y < 256 := by
  intro y hy
  obtain ⟨i, _, rfl⟩ := List.mem_map.1 hy
  have h1 : sbyte s t i < 256 := at8_lt (block_lt _ _ _) _
  split
  · exact xor8_lt (at8_lt hb _) h1
  · exact h1
/-- Is this a donor's number? -/
def donP (z : Int) : Bool := decide (1 ≤ z) && decide (z ≤ 64)
theorem donP_nat {z : Int} (h : donP z = true) : ∃ n : Nat, z = n ∧ 1 ≤ n ∧ n ≤ 64 := by
  simp [donP] at h
  exact ⟨z.toNat, by omega, by omega, by omega⟩
end Sl
end Go.Proofs.YtdnnpomnjblaeaaDoor
