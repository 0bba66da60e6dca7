/-
  Seeds and nonces over natural numbers: a number's bytes, a tag's nonce, a seed's stream, its numbers, a number's seed.
-/
import Derived.Test.YtjbpnhibgafdmaaDoorXors
namespace Go.Proofs.YtjbpnhibgafdmaaDoor
open Go.RowKit Cha
set_option linter.unusedVariables false

def lowB (n i : Nat) : Nat := n / 2 ^ (8 * i) % 256
def lo8 (n : Nat) : List Nat := (List.range 8).map (lowB n)
def nonceOf (t : Nat) : List Nat := [t % 256, t / 256 % 256, t / 65536 % 256, t / 16777216 % 256, 0, 0, 0, 0, 0, 0, 0, 0]
def seedOf (n : Nat) : List Nat := lo8 n ++ List.replicate 24 0
def sbytes (s : List Nat) (t m : Nat) : List Nat := Cha.xor s 0 (nonceOf t) (List.replicate m 0)
def svec (s : List Nat) (t m : Nat) : List Nat := (List.range m).map fun i => le (sbytes s t (4 * m)) (4 * i)
def derive (n t : Nat) : List Nat := sbytes (seedOf n) t 32
/-- A count, kept within bounds. -/
def kept (n : Int) (m : Nat) : Nat := (min n (m : Int)).toNat

theorem lo8_length (n : Nat) : (lo8 n).length = 8 := by simp [lo8]
theorem lo8_lt (n : Nat) : ∀ x ∈ lo8 n, x < 256 := by
  intro x hx
  obtain ⟨i, _, rfl⟩ := List.mem_map.1 hx
  exact Nat.mod_lt _ (by omega)
theorem nonceOf_length (t : Nat) : (nonceOf t).length = 12 := rfl
theorem nonceOf_lt (t : Nat) : ∀ x ∈ nonceOf t, x < 256 := by
  intro x hx
  simp only [nonceOf, List.mem_cons, List.not_mem_nil, or_false] at hx
  rcases hx with rfl | rfl | rfl | rfl | rfl | rfl | rfl | rfl | rfl | rfl | rfl | rfl <;> omega
theorem seedOf_length (n : Nat) : (seedOf n).length = 32 := by rw [seedOf, List.length_append, lo8_length, List.length_replicate]
theorem seedOf_lt (n : Nat) : ∀ x ∈ seedOf n, x < 256 := by
  intro x hx
  rcases List.mem_append.1 hx with h | h
  · exact lo8_lt n x h
  · have := List.eq_of_mem_replicate h
    omega
theorem lo8_tag {t : Nat} (h : t < 4294967296) : lo8 t ++ List.replicate 4 0 = nonceOf t := by
  have e : lo8 t = [lowB t 0, lowB t 1, lowB t 2, lowB t 3, lowB t 4, lowB t 5, lowB t 6, lowB t 7] := rfl
  rw [e]
  unfold nonceOf lowB
  simp only [List.cons_append, List.nil_append, List.replicate]
  congr 1 <;> simp <;> omega
theorem kept_le (n : Int) (m : Nat) : kept n m ≤ m := by unfold kept; omega
theorem sbytes_length (s : List Nat) (t m : Nat) : (sbytes s t m).length = m := by rw [sbytes, xor_len, List.length_replicate]
theorem xor_lt8 {ks ns bs : List Nat} {c : Nat} (hb : ∀ x ∈ bs, x < 256) : ∀ x ∈ Cha.xor ks c ns bs, x < 256 := by
  intro x hx
  obtain ⟨i, _, rfl⟩ := List.mem_map.1 hx
  exact xor8_lt (at8_lt hb _) (at8_lt (block_lt _ _ _) _)
theorem zeros_lt (m : Nat) : ∀ x ∈ List.replicate m 0, x < 256 := by
  intro x hx
  have := List.eq_of_mem_replicate hx
  omega
theorem sbytes_lt (s : List Nat) (t m : Nat) : ∀ x ∈ sbytes s t m, x < 256 := xor_lt8 (zeros_lt m)
theorem svec_length (s : List Nat) (t m : Nat) : (svec s t m).length = m := by simp [svec]
theorem derive_length (n t : Nat) : (derive n t).length = 32 := sbytes_length _ _ _
theorem derive_lt (n t : Nat) : ∀ x ∈ derive n t, x < 256 := sbytes_lt _ _ _
theorem in_seed {s : List Nat} (hl : s.length = 32) (hb : ∀ x ∈ s, x < 256) (t : Nat) : In s 0 (nonceOf t) := ⟨hl, nonceOf_length t, hb, by omega, nonceOf_lt t⟩

/-- A byte of the stream. -/
def sbyte (s : List Nat) (t i : Nat) : Nat := at_ (block s (add 0 (i / 64)) (nonceOf t)) (i % 64)
theorem sbytes_eq (s : List Nat) (t m : Nat) : sbytes s t m = (List.range m).map (sbyte s t) := by
  unfold sbytes Cha.xor
  rw [List.length_replicate]
  refine List.map_congr_left fun i _ => ?_
  have : at_ (List.replicate m 0) i = 0 := by
    unfold at_
    by_cases h : i < m <;> simp [h]
  rw [this, Nat.zero_xor]
  rfl
theorem at_sbytes (s : List Nat) (t m i : Nat) (h : i < m) : at_ (sbytes s t m) i = sbyte s t i := by
  rw [sbytes_eq]
  simp [at_, h]
theorem sbytes_take (s : List Nat) (t m k : Nat) : (sbytes s t (m + k)).take m = sbytes s t m := by
  rw [sbytes_eq, sbytes_eq]
  apply List.ext_getElem?
  intro i
  rw [List.getElem?_take]
  by_cases h : i < m
  · have : i < m + k := by omega
    simp [h, this]
  · simp [h]
theorem le_sbytes (s : List Nat) (t m i : Nat) (h : 4 * i + 3 < m) : le (sbytes s t m) (4 * i) = le4 (sbyte s t (4 * i)) (sbyte s t (4 * i + 1)) (sbyte s t (4 * i + 2)) (sbyte s t (4 * i + 3)) := by
  unfold le le4
  rw [at_sbytes _ _ _ _ (by omega), at_sbytes _ _ _ _ (by omega), at_sbytes _ _ _ _ (by omega), at_sbytes _ _ _ _ (by omega)]
end Go.Proofs.YtjbpnhibgafdmaaDoor
