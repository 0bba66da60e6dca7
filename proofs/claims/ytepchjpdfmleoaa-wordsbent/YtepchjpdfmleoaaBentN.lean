/-
  Sealed bytes of which one bit is turned: what Open says of them.
-/
import Derived.Test.YtepchjpdfmleoaaRefTake
namespace Go.Proofs.Ytepchjpdfmleoaa
open Go.RowKit Cn
set_option linter.unusedVariables false

/-- One bit turned: bit k, the first byte's lowest first. -/
def bend (s : List Nat) (k : Nat) : List Nat := s.set (k / 8) (s.getD (k / 8) 0 ^^^ 2 ^ (k % 8))
theorem bend_length (s : List Nat) (k : Nat) : (bend s k).length = s.length := by simp [bend]
theorem le4_length (n : Nat) : (le4 n).length = 4 := rfl
theorem le4_inj {a b : Nat} (ha : a < 4294967296) (hb : b < 4294967296) (h : le4 a = le4 b) : a = b := by
  unfold le4 at h
  simp at h
  omega
theorem crc_eq {l m : List Nat} (h : crc l = crc m) : stps (bitsOf l) 4294967295 = stps (bitsOf m) 4294967295 := by
  unfold crc at h
  have h1 := stps_lt (bitsOf l) (n := 4294967295) (by omega)
  have h2 := stps_lt (bitsOf m) (n := 4294967295) (by omega)
  omega
theorem bits8_bent : ∀ x : Nat, x < 256 → ∀ j : Nat, j < 8 → bits8 (x ^^^ 2 ^ j) = (bits8 x).set j (1 - x / 2 ^ j % 2) := by decide +kernel
theorem bits8_length (x : Nat) : (bits8 x).length = 8 := by simp [bits8]
theorem bits8_get (x : Nat) {j : Nat} (hj : j < 8) : (bits8 x)[j]'(by rw [bits8_length]; exact hj) = x / 2 ^ j % 2 := by simp [bits8]
theorem xor_ne (x j : Nat) : x ^^^ 2 ^ j ≠ x := by
  intro h
  have h1 : x ^^^ (x ^^^ 2 ^ j) = x ^^^ x := by rw [h]
  rw [← Nat.xor_assoc, Nat.xor_self, Nat.zero_xor] at h1
  have : 0 < 2 ^ j := Nat.pow_pos (by omega)
  omega
theorem crc_bent {l : List Nat} (hl : ∀ x ∈ l, x < 256) {p j : Nat} (hp : p < l.length) (hj : j < 8) : crc (l.set p (l.getD p 0 ^^^ 2 ^ j)) ≠ crc l := by
  intro h
  have h := crc_eq h
  obtain ⟨x, hx⟩ : ∃ x, x = l.getD p 0 := ⟨_, rfl⟩
  have hx' : l[p] = x := by rw [hx]; simp [List.getD, hp]
  have xl : x < 256 := by rw [← hx']; exact hl _ (List.getElem_mem hp)
  rw [← hx] at h
  have e1 : bitsOf (l.set p (x ^^^ 2 ^ j)) = bitsOf (l.take p) ++ (bits8 (x ^^^ 2 ^ j) ++ bitsOf (l.drop (p + 1))) := by
    rw [List.set_eq_take_append_cons_drop, if_pos hp]
    simp [bitsOf]
  have e2 : bitsOf l = bitsOf (l.take p) ++ (bits8 x ++ bitsOf (l.drop (p + 1))) := by
    conv => lhs; rw [← List.take_append_drop p l, List.drop_eq_getElem_cons hp, hx']
    simp [bitsOf]
  have e3 : bits8 (x ^^^ 2 ^ j) = (bits8 x).take j ++ (1 - x / 2 ^ j % 2) :: (bits8 x).drop (j + 1) := by
    rw [bits8_bent x xl j hj, List.set_eq_take_append_cons_drop, if_pos (by rw [bits8_length]; exact hj)]
  have e4 : bits8 x = (bits8 x).take j ++ (x / 2 ^ j % 2) :: (bits8 x).drop (j + 1) := by
    conv => lhs; rw [← List.take_append_drop j (bits8 x), List.drop_eq_getElem_cons (by rw [bits8_length]; exact hj), bits8_get x hj]
  rw [e1, e2, e3] at h
  conv at h => rhs; rw [e4]
  simp only [List.append_assoc, List.cons_append] at h
  rw [← List.append_assoc, ← List.append_assoc] at h
  exact stps_bent (bitsOf (l.take p) ++ (bits8 x).take j) ((bits8 x).drop (j + 1) ++ bitsOf (l.drop (p + 1))) (by omega) (by omega) h

theorem opE_bent {l : List Nat} (hl : ∀ x ∈ l, x < 256) (hn : l.length ≤ 65536) {k : Nat} (hk : k < 8 * (sealed l).length) : opE (bend (sealed l) k) = 2 := by
  have sl : (sealed l).length = l.length + 4 := by unfold sealed; simp [le4]
  have bl : (bend (sealed l) k).length = l.length + 4 := by rw [bend_length, sl]
  unfold opE
  rw [bl, if_neg (by omega), if_neg (by omega), if_pos ?_]
  rw [show l.length + 4 - 4 = l.length by omega]
  have tk : (sealed l).take l.length = l := by unfold sealed; simp
  have dr : (sealed l).drop l.length = le4 (crc l) := by unfold sealed; simp
  unfold bend
  intro h
  by_cases c : k / 8 < l.length
  · rw [List.take_set, tk, List.drop_set_of_lt c, dr] at h
    have e : (sealed l).getD (k / 8) 0 = l.getD (k / 8) 0 := by unfold sealed; simp [List.getD, List.getElem?_append_left c]
    rw [e] at h
    exact crc_bent hl c (by omega) (le4_inj (crc_lt _) (crc_lt _) h)
  · rw [List.take_set, tk, List.set_eq_of_length_le (by omega), List.drop_set, if_neg c, dr] at h
    have hi : k / 8 - l.length < 4 := by omega
    have e : (sealed l).getD (k / 8) 0 = (le4 (crc l)).getD (k / 8 - l.length) 0 := by unfold sealed; simp [List.getD, List.getElem?_append_right (by omega : l.length ≤ k / 8)]
    rw [e] at h
    generalize k / 8 - l.length = i at *
    have h2 := congrArg (fun t => t.getD i 0) h
    rw [show ((le4 (crc l)).set i ((le4 (crc l)).getD i 0 ^^^ 2 ^ (k % 8))).getD i 0 = (le4 (crc l)).getD i 0 ^^^ 2 ^ (k % 8) by simp [List.getD, le4_length, hi]] at h2
    exact xor_ne _ _ h2.symm
theorem opL_bent {l : List Nat} (hl : ∀ x ∈ l, x < 256) (hn : l.length ≤ 65536) {k : Nat} (hk : k < 8 * (sealed l).length) : opL (bend (sealed l) k) = [] := by
  unfold opL
  rw [opE_bent hl hn hk]
  rfl
end Go.Proofs.Ytepchjpdfmleoaa
