/-
  The landed crowd: Has, Size, Within, All, Of.
-/
import Derived.Test.YtgaphbncefphbaaDoorCrowdA
namespace Go.Proofs.YtgaphbncefphbaaDoor
open Go.RowKit Pn Cr
set_option linter.unusedVariables false

section
variable {P : Program} {ops : Array Oper} {rest : List Oper} {o : Oper} {a : Act} {w : World} {Q : Exit → Act → World → Prop}
/-- The lesser one of two numbers. -/
theorem wp_minI (hgd : o.guard = none) (x y : Operand) (t : TypeId) (ho : o.op = .call { callee := .builtin .min, args := #[x, y], argTypes := #[t, t] }) (m n L : Int) (hx : a.eval x = .int .i64 m) (hy : a.eval y = .int .i64 n) (hL : L = min m n)
    (h : wpList P ops Q rest (a.put o.dst (.int .i64 L)) w) : wpList P ops Q (o :: rest) a w := by
  have key : ∀ ρ : Operand → Value, ρ x = .int .i64 m → ρ y = .int .i64 n → (execOp ρ o).run P w = .ok (.value (.int .i64 L)) w := by
    intro ρ h1 h2
    unfold execOp
    subst hL
    by_cases hmn : n < m
    · rw [show min m n = n by omega]
      simp [ho, h1, h2, go_sem, hmn]
    · rw [show min m n = m by omega]
      simp [ho, h1, h2, go_sem, hmn]
  refine wpList_plain hgd fun K hK => ?_
  unfold Oper.wp
  rw [key a.eval hx hy]
  exact hK _ _ h
end

theorem hasK18 (c : Nat) (hc : c < 18446744073709551616) (n : Int) (w : World) :
    Calls Tryd.prog 11 #[.int .u64 (c : Nat), .int .i64 n] w fun e w' => e = .returned (.bool (hasC c n)) ∧ Old w w' := by
  have C1 := hide (isDonor18_any n w)
  by_cases h : 1 ≤ n ∧ n ≤ 64
  · obtain ⟨k, rfl⟩ : ∃ k : Nat, n = (k : Int) + 1 := ⟨(n - 1).toNat, by omega⟩
    have C2 := hide (has18_any c k hc (by omega) w)
    have e : hasC c ((k : Int) + 1) = c.testBit k := by
      unfold hasC
      rw [decide_eq_true (p := 1 ≤ (k : Int) + 1) (by omega), decide_eq_true (p := (k : Int) + 1 ≤ 64) (by omega), show ((k : Int) + 1 - 1).toNat = k by omega]
      rfl
    rw [decide_eq_true (p := 1 ≤ (k : Int) + 1) (by omega), decide_eq_true (p := (k : Int) + 1 ≤ 64) (by omega), Bool.and_true] at C1
    rw [e]
    clear e h hc
    generalize c.testBit k = z at *
    go_enter Tryd.func11, Tryd.ntmps11
    go_wp2_with fail
    refine C1.out.mono ?_
    rintro e w' ⟨rfl, rfl⟩
    go_wp2_with fail
    refine C2.out.mono ?_
    rintro e w' ⟨rfl, rfl⟩
    go_wp2
    go_ret
    exact ⟨by first | rfl | simp, Old.refl _⟩
  · have e : hasC c n = false := has_out (by omega)
    have e2 : (decide (1 ≤ n) && decide (n ≤ 64)) = false := by
      rw [Bool.eq_false_iff]
      intro h2
      simp only [Bool.and_eq_true, decide_eq_true_eq] at h2
      exact h h2
    rw [e2] at C1
    rw [e]
    clear e e2 h hc
    go_enter Tryd.func11, Tryd.ntmps11
    go_wp2_with fail
    refine C1.out.mono ?_
    rintro e w' ⟨rfl, rfl⟩
    go_wp2
    go_ret
    exact ⟨by first | rfl | simp, Old.refl _⟩

theorem sizeK18 (c : Nat) (hc : c < 18446744073709551616) (w : World) :
    Calls Tryd.prog 10 #[.int .u64 (c : Nat)] w fun e w' => e = .returned (.int .i64 (sizeC c : Nat)) ∧ Old w w' := by
  have C := hide (size18_any c hc w)
  generalize sizeC c = z at *
  go_enter Tryd.func10, Tryd.ntmps10
  go_wp2_with fail
  refine C.out.mono ?_
  rintro e w' ⟨rfl, rfl⟩
  go_wp2
  go_ret
  exact ⟨rfl, Old.refl _⟩

theorem withinK18 (b c : Nat) (hb : b < 18446744073709551616) (hc : c < 18446744073709551616) (w : World) :
    Calls Tryd.prog 15 #[.int .u64 (b : Nat), .int .u64 (c : Nat)] w fun e w' => e = .returned (.bool (withinC b c)) ∧ Old w w' := by
  have C := hide (within18_any b c hb hc w)
  generalize withinC b c = z at *
  go_enter Tryd.func15, Tryd.ntmps15
  go_wp2_with fail
  refine C.out.mono ?_
  rintro e w' ⟨rfl, rfl⟩
  go_wp2
  go_ret
  exact ⟨rfl, Old.refl _⟩

theorem allC_next (k : Nat) : allC k ||| 2 ^ k = allC (k + 1) := by
  apply Nat.eq_of_testBit_eq
  intro i
  unfold allC
  rw [Nat.testBit_or, Nat.testBit_two_pow_sub_one, Nat.testBit_two_pow_sub_one, Nat.testBit_two_pow]
  rw [Bool.eq_iff_iff]
  simp only [Bool.or_eq_true, decide_eq_true_eq]
  omega

set_option maxHeartbeats 1000000 in
theorem allK18 (n : Int) (w : World) :
    Calls Tryd.prog 14 #[.int .i64 n] w fun e w' => e = .returned (.int .u64 (allC (min n.toNat 64) : Nat)) ∧ Old w w' := by
  by_cases hn : n ≤ 0
  · have e : allC (min n.toNat 64) = 0 := by rw [show min n.toNat 64 = 0 by omega]; rfl
    have hm := hide (show n = min n 64 by omega)
    have d : decide (0 < n) = false := decide_eq_false (by omega)
    rw [e]
    clear e hn
    go_enter Tryd.func14, Tryd.ntmps14
    go_wp2_with (refine wp_minI rfl _ _ _ rfl n 64 n rfl rfl hm.out ?_)
    go_loop [3, 4, 7] (fun vs vw vi => vs = .int .u64 0 ∧ vi = .int .i64 0) (fun _ _ _ => 0)
    case atStart => exact ⟨rfl, rfl⟩
    case round =>
      obtain ⟨rfl, rfl⟩ := hrel
      go_wp2
      go_ret
      exact ⟨rfl, Old.refl _⟩
  · obtain ⟨N, rfl⟩ : ∃ N : Nat, n = N := ⟨n.toNat, by omega⟩
    obtain ⟨K, hK⟩ : ∃ K : Nat, K = min N 64 := ⟨_, rfl⟩
    have hm := hide (show (K : Int) = min (N : Int) 64 by omega)
    rw [show min (N : Int).toNat 64 = K by omega]
    have hK64 : K ≤ 64 := by omega
    have C := hide (fun k (hk : k < 64) => with18_any (allC k) k (allC_lt k (by omega)) hk w)
    have A0 : Hid ((0 : Nat) = allC 0) := rfl
    clear hK hn
    go_enter Tryd.func14, Tryd.ntmps14
    go_wp2_with (refine wp_minI rfl _ _ _ rfl (N : Int) 64 (K : Int) rfl rfl hm.out ?_)
    go_loop [3, 4, 7] (fun vs vw vi => ∃ k s : Nat, k ≤ K ∧ vs = .int .u64 (s : Nat) ∧ vi = .int .i64 (k : Nat) ∧ Hid (s = allC k)) (fun _ _ vi => (K - intOf vi).toNat)
    case atStart => exact ⟨0, 0, by omega, rfl, rfl, A0⟩
    case round =>
      obtain ⟨k, s, hk, rfl, rfl, H⟩ := hrel
      by_cases hkn : k = K
      · subst hkn
        go_wp2
        go_ret
        exact ⟨by rw [H.out]; rfl, Old.refl _⟩
      · have hkl : k < K := by omega
        have C1 := C.out k (by omega)
        rw [allC_next, ← H.out] at C1
        obtain ⟨z, hz⟩ : ∃ z, z = allC (k + 1) := ⟨_, rfl⟩
        rw [← hz] at C1
        have C2 := hide C1
        have A1 := hide hz
        have hki : (0 : Int) ≤ k := by omega
        have hki2 : (k : Int) < K := by omega
        clear C1 hz
        go_wp2_with fail
        refine C2.out.mono ?_
        rintro e w' ⟨rfl, rfl⟩
        go_wp2
        go_round
        case rel => exact ⟨k + 1, z, by omega, rfl, by go_num, A1⟩
        case measure => simp [intOf]; omega
end Go.Proofs.YtgaphbncefphbaaDoor
