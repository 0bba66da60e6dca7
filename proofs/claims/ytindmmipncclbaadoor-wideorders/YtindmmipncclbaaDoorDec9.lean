/-
  A number's text by groups of 19 digits; the library's digits of a number. Plain mathematics: nothing of the program.
-/
import Derived.Test.YtindmmipncclbaaDoorDecN
import Derived.Lib.ItoaNum
import Derived.Lib.Repeat
namespace Go.Proofs.YtindmmipncclbaaDoor
set_option linter.unusedVariables false
namespace Wd

theorem bstr_data (l : List Nat) : Ssb.bstr l = ⟨(l.map UInt8.ofNat).toArray⟩ := by
  unfold Ssb.bstr strOfNums
  rw [List.map_map]
  rfl
theorem bstr_append (l m : List Nat) : Ssb.bstr l ++ Ssb.bstr m = Ssb.bstr (l ++ m) := by
  rw [bstr_data, bstr_data, bstr_data, List.map_append]
  apply ByteArray.ext
  rw [ByteArray.data_append]
  simp

theorem valT_append : ∀ (l m : List Nat), valT (l ++ m) = valT l * 10 ^ m.length + valT m
  | [], m => by simp [valT]
  | d :: r, m => by
    have ih := valT_append r m
    rw [List.cons_append, valT, valT, ih, List.length_append, Nat.pow_add, Nat.add_mul, Nat.mul_assoc, Nat.add_assoc]
theorem valT_zeros : ∀ n : Nat, valT (List.replicate n 48) = 0
  | 0 => rfl
  | n + 1 => by rw [List.replicate_succ, valT, valT_zeros n]; simp

/-- The library's digits. -/
def libL (u : Nat) : List Nat := (Lib.decDigits u).map UInt8.toNat
theorem toNat_dig {d : Nat} (h : d < 10) : (UInt8.ofNat (48 + d)).toNat = 48 + d := by
  rw [UInt8.toNat_ofNat']; omega
theorem libL_tx (u : Nat) : Tx u (libL u) := by
  induction u using Nat.strongRecOn with
  | _ u ih =>
    by_cases h : u < 10
    · have e : libL u = [48 + u] := by unfold libL; rw [Lib.decDigits_one h, List.map_cons, List.map_nil, toNat_dig h]
      rw [e]
      exact ⟨fun d hd => by simp at hd; omega, by simp [valT], by simp, fun hh => by simp at hh; rw [hh]⟩
    · have e : libL u = libL (u / 10) ++ [48 + u % 10] := by
        unfold libL
        conv => lhs; rw [Lib.decDigits, dif_neg h]
        rw [List.map_append, List.map_cons, List.map_nil, toNat_dig (Nat.mod_lt _ (by omega))]
      obtain ⟨i1, i2, i3, i4⟩ := ih (u / 10) (by omega)
      rw [e]
      refine ⟨fun d hd => ?_, ?_, by simp, fun hh => ?_⟩
      · rcases List.mem_append.1 hd with h1 | h1
        · exact i1 d h1
        · simp at h1; omega
      · rw [valT_append, i2]
        simp [valT]
        omega
      · rw [List.head?_append] at hh
        cases hc : (libL (u / 10)).head? with
        | none => rw [List.head?_eq_none_iff] at hc; rw [hc] at i3; simp at i3
        | some c =>
          rw [hc] at hh
          simp at hh
          rw [hh] at hc
          rw [i4 hc] at i2
          simp [valT] at i2
          omega
theorem libL_eq {u : Nat} (hu : u < M) : libL u = decL u := (Tx.eq_iff (libL_tx u) (decL_tx hu)).2 rfl
theorem lib_text {u : Nat} (hu : u < M) : (⟨(Lib.decDigits u).toArray⟩ : ByteArray) = Ssb.bstr (decL u) := by
  rw [← libL_eq hu, bstr_data]
  congr 2
  unfold libL
  rw [List.map_map]
  conv => lhs; rw [← List.map_id (Lib.decDigits u)]
  apply List.map_congr_left
  intro x _
  simp
theorem rep_text (c : Nat) : (⟨(Lib.repeatL [48] c).toArray⟩ : ByteArray) = Ssb.bstr (List.replicate c 48) := by
  have := Lib.repeatL_replicate 48 1 c
  rw [bstr_data, show ([48] : List UInt8) = List.replicate 1 48 from rfl, this, Nat.mul_one, List.map_replicate]
  rfl

theorem Tx.short {x k : Nat} {l : List Nat} (T : Tx x l) (h : x < 10 ^ k) (hk : 0 < k) : l.length ≤ k := by
  rcases Nat.lt_or_ge 1 l.length with h1 | h1
  · have h2 := T.high h1
    have h3 : 10 ^ (l.length - 1) < 10 ^ k := Nat.lt_of_le_of_lt h2 h
    have := (Nat.pow_lt_pow_iff_right (a := 10) (by omega)).1 h3
    omega
  · omega
/-- The last 19 digits behind the others. -/
theorem decL_group {x : Nat} (hx : x < M) (h : 10000000000000000000 ≤ x) :
    (decL (x % 10000000000000000000)).length ≤ 19 ∧ decL (x / 10000000000000000000) ++ List.replicate (19 - (decL (x % 10000000000000000000)).length) 48 ++ decL (x % 10000000000000000000) = decL x := by
  have hM : ∀ y, y ≤ x → y < M := fun y hy => Nat.lt_of_le_of_lt hy hx
  have T := decL_tx (hM (x / 10000000000000000000) (Nat.div_le_self _ _))
  have U := decL_tx (hM (x % 10000000000000000000) (Nat.mod_le _ _))
  have hl := U.short (k := 19) (Nat.mod_lt _ (by omega)) (by omega)
  refine ⟨hl, ?_⟩
  revert T U hl
  generalize decL (x / 10000000000000000000) = l
  generalize decL (x % 10000000000000000000) = m
  intro T U hl
  refine (Tx.eq_iff (x := x) (y := x) ⟨fun d hd => ?_, ?_, ?_, fun hh => ?_⟩ (decL_tx hx)).2 rfl
  · rw [List.append_assoc] at hd
    rcases List.mem_append.1 hd with h1 | h1
    · exact T.dig d h1
    · rcases List.mem_append.1 h1 with h2 | h2
      · have := (List.mem_replicate.1 h2).2; omega
      · exact U.dig d h2
  · rw [List.append_assoc, valT_append, valT_append, valT_zeros, T.val, U.val, List.length_append, List.length_replicate, show 19 - m.length + m.length = 19 by omega, Nat.zero_mul, Nat.zero_add]
    show x / 10000000000000000000 * 10000000000000000000 + x % 10000000000000000000 = x
    rw [Nat.mul_comm, Nat.div_add_mod]
  · have := T.pos
    simp
    omega
  · rw [List.append_assoc, List.head?_append] at hh
    cases hc : l.head? with
    | none => rw [List.head?_eq_none_iff] at hc; have := T.pos; rw [hc] at this; simp at this
    | some c =>
      rw [hc] at hh
      simp at hh
      rw [hh] at hc
      have v := T.val
      rw [T.head hc] at v
      have : 1 ≤ x / 10000000000000000000 := (Nat.le_div_iff_mul_le (by omega)).2 (by omega)
      simp [valT] at v
      omega
end Wd
end Go.Proofs.YtindmmipncclbaaDoor
