/-
  The walks of layer 1's statements: each law returns true at any numbers.
-/
import Derived.Test.YtlgakkmgmncfaaaAwake1
import Derived.Test.YtlgakkmgmncfaaaRef1Inv
import Derived.OpenShut
namespace Go.Proofs.Ytlgakkmgmncfaaa
open Go.RowKit M
set_option linter.unusedVariables false

theorem u64_nat {a : Int} (h : (Lit.int .u64 a).wf = true) : ∃ n : Nat, n < 18446744073709551616 ∧ a = (n : Int) := by
  have := bounds_u64 h
  exact ⟨a.toNat, by omega, by omega⟩
theorem u32_nat {a : Int} (h : (Lit.int .u32 a).wf = true) : ∃ n : Nat, n < 4294967296 ∧ a = (n : Int) := by
  have := bounds_u32 h
  exact ⟨a.toNat, by omega, by omega⟩

set_option maxHeartbeats 1000000 in
theorem walk_PrimeSums (a0 a1 : Int) (w0 : (Lit.int .u64 a0).wf = true) (w1 : (Lit.int .u64 a1).wf = true) (w : World) :
    Calls Try.prog 3 #[.int .u64 a0, .int .u64 a1] w fun e w' => e = .returned (.bool true) ∧ Grown w w' := by
  obtain ⟨a, ha, rfl⟩ := u64_nat w0
  obtain ⟨b, hb, rfl⟩ := u64_nat w1
  clear w0 w1
  go_enter Try.func3, Try.ntmps3
  go_wp2_with fail
  refine (awake1 _).mono ?_
  rintro e w' ⟨rfl, rfl⟩
  go_wp2_with fail
  refine (Add_any a b ha hb _).mono ?_
  rintro e w' ⟨rfl, rfl⟩
  go_wp2_with fail
  refine (R1.Add_any a b ha hb _).mono ?_
  rintro e w' ⟨rfl, rfl⟩
  go_wp2_with fail
  refine (Sub_any a b ha hb _).mono ?_
  rintro e w' ⟨rfl, rfl⟩
  go_wp2_with fail
  refine (R1.Sub_any a b ha hb _).mono ?_
  rintro e w' ⟨rfl, rfl⟩
  go_wp2_with fail
  refine (Mod_any a ha _).mono ?_
  rintro e w' ⟨rfl, rfl⟩
  go_wp2_with fail
  refine (R1.Mod_any a ha _).mono ?_
  rintro e w' ⟨rfl, rfl⟩
  go_wp2
  go_ret
  exact ⟨rfl, Grown.refl _⟩

set_option maxHeartbeats 1000000 in
theorem walk_PrimeProducts (a0 a1 : Int) (w0 : (Lit.int .u64 a0).wf = true) (w1 : (Lit.int .u64 a1).wf = true) (w : World) :
    Calls Try.prog 4 #[.int .u64 a0, .int .u64 a1] w fun e w' => e = .returned (.bool true) ∧ Grown w w' := by
  obtain ⟨a, ha, rfl⟩ := u64_nat w0
  obtain ⟨b, hb, rfl⟩ := u64_nat w1
  clear w0 w1
  go_enter Try.func4, Try.ntmps4
  go_wp2_with fail
  refine (awake1 _).mono ?_
  rintro e w' ⟨rfl, rfl⟩
  go_wp2_with fail
  refine (Mul_any a b ha hb _).mono ?_
  rintro e w' ⟨rfl, rfl⟩
  go_wp2_with fail
  refine (R1.Mul_any a b ha hb _).mono ?_
  rintro e w' ⟨rfl, rfl⟩
  go_wp2
  go_ret
  exact ⟨rfl, Grown.refl _⟩

set_option maxHeartbeats 1000000 in
theorem walk_PrimePowers (a0 a1 : Int) (w0 : (Lit.int .u64 a0).wf = true) (w1 : (Lit.int .u64 a1).wf = true) (w : World) :
    Calls Try.prog 5 #[.int .u64 a0, .int .u64 a1] w fun e w' => e = .returned (.bool true) ∧ Grown w w' := by
  obtain ⟨a, ha, rfl⟩ := u64_nat w0
  obtain ⟨b, hb, rfl⟩ := u64_nat w1
  clear w0 w1
  go_enter Try.func5, Try.ntmps5
  go_wp2_with fail
  refine (awake1 _).mono ?_
  rintro e w' ⟨rfl, rfl⟩
  go_wp2_with fail
  refine (Pow_any a b ha hb _).mono ?_
  rintro e w' ⟨rfl, rfl⟩
  go_wp2_with fail
  refine (R1.Pow_any a b ha hb _).mono ?_
  rintro e w' ⟨rfl, rfl⟩
  go_wp2
  go_ret
  exact ⟨rfl, Grown.refl _⟩

set_option maxHeartbeats 1000000 in
theorem walk_PrimeTurns (a0 : Int) (w0 : (Lit.int .u64 a0).wf = true) (w : World) :
    Calls Try.prog 6 #[.int .u64 a0] w fun e w' => e = .returned (.bool true) ∧ Grown w w' := by
  obtain ⟨a, ha, rfl⟩ := u64_nat w0
  clear w0
  by_cases h0 : md a = 0
  · go_enter Try.func6, Try.ntmps6
    go_wp2_with fail
    refine (Inv_none a ha h0 _).mono ?_
    rintro e w' ⟨rfl, rfl⟩
    go_wp2_with fail
    refine (R1.Mod_any a ha _).mono ?_
    rintro e w' ⟨rfl, rfl⟩
    go_wp2_with fail
    refine (awake1 _).mono ?_
    rintro e w' ⟨rfl, rfl⟩
    go_wp2
    go_ret
    exact ⟨rfl, Grown.refl _⟩
  · have h1 : 1 ≤ md a := by omega
    have h2 : a % 2305843009213693951 ≠ 0 := h0
    obtain ⟨v, hv⟩ : ∃ v, v = invP a := ⟨_, rfl⟩
    have b1 := invP_pos a h2
    have b2 := invP_lt a
    have e1 := invP_mul a h2
    have c1 := Inv_some a ha h1
    have c2 := R1.Inv_any a ha h2
    rw [← hv] at b1 b2 e1 c1 c2
    have C1 : Hid (∀ w, _) := c1
    have C2 : Hid (∀ w, _) := c2
    have B3 : Hid (decide ((v : Int) < 2305843009213693951) = true) := by show decide ((v : Int) < 2305843009213693951) = true; exact decide_eq_true (by omega)
    have B4 : Hid (decide ((1 : Int) ≤ (v : Int)) = true) := by show decide ((1 : Int) ≤ (v : Int)) = true; exact decide_eq_true (by omega)
    have B5 : Hid (v < 18446744073709551616) := by show v < 18446744073709551616; omega
    have E1 : Hid (mulP v a = 1) := e1
    have hm : (((md a : Nat) : Int) == 0) = false := by
      rw [beq_eq_false_iff_ne]; omega
    clear c1 c2 hv h2 h0 b1 b2 e1 h1
    go_enter Try.func6, Try.ntmps6
    go_wp2_with fail
    refine (C1.out _).mono ?_
    rintro e w' ⟨rfl, rfl⟩
    go_wp2_with fail
    refine (R1.Mod_any a ha _).mono ?_
    rintro e w' ⟨rfl, rfl⟩
    go_wp2_with fail
    refine (awake1 _).mono ?_
    rintro e w' ⟨rfl, rfl⟩
    go_wp2_with fail
    refine (C2.out _).mono ?_
    rintro e w' ⟨rfl, rfl⟩
    have b3 := B3.out
    have b4 := B4.out
    go_wp2_with fail
    refine (R1.Mul_any v a B5.out ha _).mono ?_
    rintro e w' ⟨rfl, rfl⟩
    rw [E1.out]
    go_wp2
    go_ret
    exact ⟨rfl, Grown.refl _⟩

theorem parts_mul (a b c : Nat) : addP (mulP a b) (mulP a c) = mulP a (addP b c) := by
  unfold addP mulP; rw [Nat.mul_mod_mod, ← Nat.add_mod, Nat.mul_add]
theorem parts_sub (a b : Nat) : subP (addP a b) b = md a := by
  unfold addP subP md; omega

set_option maxHeartbeats 2000000 in
theorem walk_PrimeParts (a0 a1 a2 a3 a4 : Int) (w0 : (Lit.int .u64 a0).wf = true) (w1 : (Lit.int .u64 a1).wf = true) (w2 : (Lit.int .u64 a2).wf = true) (w3 : (Lit.int .u32 a3).wf = true) (w4 : (Lit.int .u32 a4).wf = true) (w : World) :
    Calls Try.prog 7 #[.int .u64 a0, .int .u64 a1, .int .u64 a2, .int .u32 a3, .int .u32 a4] w fun e w' => e = .returned (.bool true) ∧ Grown w w' := by
  obtain ⟨a, ha, rfl⟩ := u64_nat w0
  obtain ⟨b, hb, rfl⟩ := u64_nat w1
  obtain ⟨c, hc, rfl⟩ := u64_nat w2
  obtain ⟨n, hn, rfl⟩ := u32_nat w3
  obtain ⟨m, hm, rfl⟩ := u32_nat w4
  clear w0 w1 w2 w3 w4
  have l1 := Nat.lt_trans (addP_lt b c) (by omega : 2305843009213693951 < 18446744073709551616)
  have l2 := Nat.lt_trans (mulP_lt a b) (by omega : 2305843009213693951 < 18446744073709551616)
  have l3 := Nat.lt_trans (mulP_lt a c) (by omega : 2305843009213693951 < 18446744073709551616)
  have l4 := Nat.lt_trans (mulP_lt b c) (by omega : 2305843009213693951 < 18446744073709551616)
  have l5 := Nat.lt_trans (addP_lt a b) (by omega : 2305843009213693951 < 18446744073709551616)
  have l6 := Nat.lt_trans (powP_lt a n) (by omega : 2305843009213693951 < 18446744073709551616)
  have l7 := Nat.lt_trans (powP_lt a m) (by omega : 2305843009213693951 < 18446744073709551616)
  have l8 : n < 18446744073709551616 := by omega
  have l9 : m < 18446744073709551616 := by omega
  have l10 : n + m < 18446744073709551616 := by omega
  have L : Hid (addP b c < 18446744073709551616 ∧ mulP a b < 18446744073709551616 ∧ mulP a c < 18446744073709551616 ∧ mulP b c < 18446744073709551616 ∧ addP a b < 18446744073709551616 ∧ powP a n < 18446744073709551616 ∧ powP a m < 18446744073709551616) := ⟨l1, l2, l3, l4, l5, l6, l7⟩
  clear l1 l2 l3 l4 l5 l6 l7
  go_enter Try.func7, Try.ntmps7
  go_wp2_with fail
  refine (awake1 _).mono ?_
  rintro e w' ⟨rfl, rfl⟩
  go_wp2_with fail
  refine (Add_any b c hb hc _).mono ?_
  rintro e w' ⟨rfl, rfl⟩
  go_wp2_with fail
  refine (Mul_any a (addP b c) ha L.out.1 _).mono ?_
  rintro e w' ⟨rfl, rfl⟩
  go_wp2_with fail
  refine (Mul_any a b ha hb _).mono ?_
  rintro e w' ⟨rfl, rfl⟩
  go_wp2_with fail
  refine (Mul_any a c ha hc _).mono ?_
  rintro e w' ⟨rfl, rfl⟩
  go_wp2_with fail
  refine (Add_any (mulP a b) (mulP a c) L.out.2.1 L.out.2.2.1 _).mono ?_
  rintro e w' ⟨rfl, rfl⟩
  rw [parts_mul]
  go_wp2_with fail
  refine (Mul_any a b ha hb _).mono ?_
  rintro e w' ⟨rfl, rfl⟩
  go_wp2_with fail
  refine (Mul_any (mulP a b) c L.out.2.1 hc _).mono ?_
  rintro e w' ⟨rfl, rfl⟩
  rw [mulP_assoc]
  go_wp2_with fail
  refine (Mul_any b c hb hc _).mono ?_
  rintro e w' ⟨rfl, rfl⟩
  go_wp2_with fail
  refine (Mul_any a (mulP b c) ha L.out.2.2.2.1 _).mono ?_
  rintro e w' ⟨rfl, rfl⟩
  go_wp2_with fail
  refine (Add_any a b ha hb _).mono ?_
  rintro e w' ⟨rfl, rfl⟩
  go_wp2_with fail
  refine (Sub_any (addP a b) b L.out.2.2.2.2.1 hb _).mono ?_
  rintro e w' ⟨rfl, rfl⟩
  rw [parts_sub]
  go_wp2_with fail
  refine (Mod_any a ha _).mono ?_
  rintro e w' ⟨rfl, rfl⟩
  go_wp2_with fail
  refine (Pow_any a (n + m) ha l10 _).mono ?_
  rintro e w' ⟨rfl, rfl⟩
  go_wp2_with fail
  refine (Pow_any a n ha l8 _).mono ?_
  rintro e w' ⟨rfl, rfl⟩
  go_wp2_with fail
  refine (Pow_any a m ha l9 _).mono ?_
  rintro e w' ⟨rfl, rfl⟩
  go_wp2_with fail
  refine (Mul_any (powP a n) (powP a m) L.out.2.2.2.2.2.1 L.out.2.2.2.2.2.2 _).mono ?_
  rintro e w' ⟨rfl, rfl⟩
  rw [powP_add]
  go_wp2
  go_ret
  exact ⟨rfl, Grown.refl _⟩

theorem nat_beq0 {n : Nat} (h : ¬ n = 0) : ((n : Int) == 0) = false := by
  rw [beq_eq_false_iff_ne]; omega

set_option maxHeartbeats 1000000 in
theorem walk_PrimeZero (a0 a1 : Int) (w0 : (Lit.int .u64 a0).wf = true) (w1 : (Lit.int .u64 a1).wf = true) (w : World) :
    Calls Try.prog 8 #[.int .u64 a0, .int .u64 a1] w fun e w' => e = .returned (.bool true) ∧ Grown w w' := by
  obtain ⟨a, ha, rfl⟩ := u64_nat w0
  obtain ⟨b, hb, rfl⟩ := u64_nat w1
  clear w0 w1
  by_cases h1 : md a = 0
  · have h2 : mulP a b = 0 := (mulP_zero a b).2 (Or.inl h1)
    go_enter Try.func8, Try.ntmps8
    go_wp2_with fail
    refine (awake1 _).mono ?_
    rintro e w' ⟨rfl, rfl⟩
    go_wp2_with fail
    refine (Mul_any a b ha hb _).mono ?_
    rintro e w' ⟨rfl, rfl⟩
    go_wp2_with fail
    refine (Mod_any a ha _).mono ?_
    rintro e w' ⟨rfl, rfl⟩
    go_wp2
    go_ret
    exact ⟨rfl, Grown.refl _⟩
  · by_cases h2 : md b = 0
    · have h3 : mulP a b = 0 := (mulP_zero a b).2 (Or.inr h2)
      have h4 := nat_beq0 h1
      clear h1
      go_enter Try.func8, Try.ntmps8
      go_wp2_with fail
      refine (awake1 _).mono ?_
      rintro e w' ⟨rfl, rfl⟩
      go_wp2_with fail
      refine (Mul_any a b ha hb _).mono ?_
      rintro e w' ⟨rfl, rfl⟩
      go_wp2_with fail
      refine (Mod_any a ha _).mono ?_
      rintro e w' ⟨rfl, rfl⟩
      go_wp2_with fail
      refine (Mod_any b hb _).mono ?_
      rintro e w' ⟨rfl, rfl⟩
      go_wp2
      go_ret
      exact ⟨rfl, Grown.refl _⟩
    · have h3 : ¬ mulP a b = 0 := fun h => by
        rcases (mulP_zero a b).1 h with h | h
        · exact h1 h
        · exact h2 h
      have h4 := nat_beq0 h1
      have h5 := nat_beq0 h2
      have h6 := nat_beq0 h3
      clear h1 h2 h3
      go_enter Try.func8, Try.ntmps8
      go_wp2_with fail
      refine (awake1 _).mono ?_
      rintro e w' ⟨rfl, rfl⟩
      go_wp2_with fail
      refine (Mul_any a b ha hb _).mono ?_
      rintro e w' ⟨rfl, rfl⟩
      go_wp2_with fail
      refine (Mod_any a ha _).mono ?_
      rintro e w' ⟨rfl, rfl⟩
      go_wp2_with fail
      refine (Mod_any b hb _).mono ?_
      rintro e w' ⟨rfl, rfl⟩
      go_wp2
      go_ret
      exact ⟨rfl, Grown.refl _⟩
end Go.Proofs.Ytlgakkmgmncfaaa
