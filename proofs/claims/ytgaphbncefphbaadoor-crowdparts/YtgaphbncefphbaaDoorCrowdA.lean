/-
  The landed crowd: what the methods of its sets answer.
-/
import Derived.Test.YtgaphbncefphbaaDoorCrowdC
import Derived.Test.YtgaphbncefphbaaDoorPopN
import Derived.Test.YtgaphbncefphbaaDoorLowN
namespace Go.Proofs.YtgaphbncefphbaaDoor
open Go.RowKit Pn Cr
set_option linter.unusedVariables false

theorem bAnd {z y : Int} {a b c : Nat} (hz : z = a) (hy : y = b) (ha : a < 18446744073709551616) (hb : b < 18446744073709551616) (h : a &&& b = c) : bits .and .u64 z y = (c : Int) := by
  subst hz hy
  rw [u64_and_nat a b ha hb, h]
theorem bWrap {z : Int} {n : Nat} (h : z = n) (hn : n < 18446744073709551616) : IntKind.u64.wrap z = (n : Int) := by
  rw [IntKind.wrap_u64]
  omega
set_option maxHeartbeats 1000000 in
theorem ones_any (x : Nat) (hx : x < 18446744073709551616) (w : World) :
    Calls Tryd.prog 23 #[.int .u64 (x : Nat)] w fun e w' => e = .returned (.int .i64 (sizeC x : Nat)) ∧ w' = w := by
  obtain ⟨a, b, s1, c, d, s2, s3, t, u, v, h1, h2, h3, h4, h5, h6, h7, h8, h9, h10, h11, l1, l2, l3⟩ := pop_steps x hx
  have E1 : bits .and .u64 ((x : Int) / 2) 6148914691236517205 = (a : Int) := bAnd (a := x / 2) (b := 6148914691236517205) (by simp) rfl (by omega) (by omega) h1
  have E2 : bits .and .u64 (x : Int) 6148914691236517205 = (b : Int) := bAnd (a := x) (b := 6148914691236517205) rfl rfl (by omega) (by omega) h2
  have E3 : IntKind.u64.wrap ((a : Int) + b) = (s1 : Int) := bWrap (by omega) l1
  have E4 : bits .and .u64 ((s1 : Int) / 4) 3689348814741910323 = (c : Int) := bAnd (a := s1 / 4) (b := 3689348814741910323) (by simp) rfl (by omega) (by omega) h4
  have E5 : bits .and .u64 (s1 : Int) 3689348814741910323 = (d : Int) := bAnd (a := s1) (b := 3689348814741910323) rfl rfl (by omega) (by omega) h5
  have E6 : IntKind.u64.wrap ((c : Int) + d) = (s2 : Int) := bWrap (by omega) (by omega)
  have E7 : IntKind.u64.wrap ((s2 : Int) / 16 + s2) = ((s2 / 16 + s2 : Nat) : Int) := bWrap (by simp) (by omega)
  have E8 : bits .and .u64 ((s2 / 16 + s2 : Nat) : Int) 1085102592571150095 = (s3 : Int) := bAnd (a := s2 / 16 + s2) (b := 1085102592571150095) rfl rfl (by omega) (by omega) h7
  have E9 : IntKind.u64.wrap ((s3 : Int) + (s3 : Int) / 256) = (t : Int) := bWrap (by omega) (by omega)
  have EA : IntKind.u64.wrap ((t : Int) + (t : Int) / 65536) = (u : Int) := bWrap (by omega) (by omega)
  have EB : IntKind.u64.wrap ((u : Int) + (u : Int) / 4294967296) = (v : Int) := bWrap (by omega) (by omega)
  have EC : bits .and .i64 (v : Int) 127 = (sizeC x : Int) := by
    rw [i64_and127]
    omega
  generalize s2 / 16 + s2 = s2' at *
  generalize sizeC x = z at *
  have l4 : (v : Int) < 9223372036854775808 := by omega
  have l5 : (0 : Int) ≤ v := by omega
  clear h1 h2 h3 h4 h5 h6 h7 h8 h9 h10 h11 l1 l2 l3 hx
  go_enter Tryd.func23, Tryd.ntmps23
  go_wp2_with fail
  go_ret
  exact ⟨by rfl, rfl⟩

theorem size18_any (x : Nat) (hx : x < 18446744073709551616) (w : World) :
    Calls Tryd.prog 19 #[.int .u64 (x : Nat)] w fun e w' => e = .returned (.int .i64 (sizeC x : Nat)) ∧ w' = w := by
  have C := hide (ones_any x hx w)
  generalize sizeC x = z at *
  go_enter Tryd.func19, Tryd.ntmps19
  go_wp2_with fail
  refine C.out.mono ?_
  rintro e w' ⟨rfl, rfl⟩
  go_wp2
  go_ret
  exact ⟨rfl, rfl⟩

theorem within18_any (a b : Nat) (ha : a < 18446744073709551616) (hb : b < 18446744073709551616) (w : World) :
    Calls Tryd.prog 22 #[.int .u64 (a : Nat), .int .u64 (b : Nat)] w fun e w' => e = .returned (.bool (withinC a b)) ∧ w' = w := by
  have eN : bits .andNot .u64 (a : Int) (b : Int) = ((a &&& turn b : Nat) : Int) := u64_andNot_nat a b ha hb
  have eQ : (((a &&& turn b : Nat) : Int) == 0) = withinC a b := by
    rw [within_one hb, Bool.eq_iff_iff, beq_iff_eq, decide_eq_true_eq]
    omega
  generalize a &&& turn b = q at *
  generalize withinC a b = z at *
  clear ha hb
  go_enter Tryd.func22, Tryd.ntmps22
  go_wp2_with fail
  go_ret
  exact ⟨by first | rfl | simp, rfl⟩

theorem isDonor18_any (n : Int) (w : World) :
    Calls Tryd.prog 20 #[.int .i64 n] w fun e w' => e = .returned (.bool (decide (1 ≤ n) && decide (n ≤ 64))) ∧ w' = w := by
  go_enter Tryd.func20, Tryd.ntmps20
  by_cases h : 1 ≤ n
  · have h0 : decide (n ≥ 1) = true := by simpa using h
    go_wp2_with fail
    go_ret
    exact ⟨by simp [h], rfl⟩
  · have h0 : decide (n ≥ 1) = false := by simpa using h
    go_wp2_with fail
    go_ret
    exact ⟨by simp, rfl⟩

theorem with18_any (m k : Nat) (hm : m < 18446744073709551616) (hk : k < 64) (w : World) :
    Calls Tryd.prog 18 #[.int .u64 (m : Nat), .int .i64 ((k : Int) + 1)] w fun e w' => e = .returned (.int .u64 (m ||| 2 ^ k : Nat)) ∧ w' = w := by
  have hp : (2 : Nat) ^ k < 18446744073709551616 := by
    have : (2 : Nat) ^ k < 2 ^ 64 := Nat.pow_lt_pow_right (by decide) hk
    simpa using this
  have E1 : IntKind.u64.wrap ((2 : Int) ^ k) = ((2 ^ k : Nat) : Int) := bWrap (by simp) hp
  have E2 : bits .or .u64 (m : Int) ((2 ^ k : Nat) : Int) = ((m ||| 2 ^ k : Nat) : Int) := u64_or_nat m (2 ^ k) hm hp
  generalize ((m ||| 2 ^ k : Nat) : Int) = z at *
  generalize ((2 ^ k : Nat) : Int) = y at *
  clear hp
  go_enter Tryd.func18, Tryd.ntmps18
  go_wp2_with fail
  go_ret
  exact ⟨rfl, rfl⟩

theorem has18_any (m k : Nat) (hm : m < 18446744073709551616) (hk : k < 64) (w : World) :
    Calls Tryd.prog 17 #[.int .u64 (m : Nat), .int .i64 ((k : Int) + 1)] w fun e w' => e = .returned (.bool (m.testBit k)) ∧ w' = w := by
  have E := bit_at (i := k) hm
  have E2 : ((if m.testBit k = true then (1 : Int) else 0) == 1) = m.testBit k := by cases m.testBit k <;> rfl
  generalize (if m.testBit k = true then (1 : Int) else 0) = z at *
  generalize m.testBit k = y at *
  go_enter Tryd.func17, Tryd.ntmps17
  go_wp2_with fail
  go_ret
  exact ⟨by first | rfl | simp, rfl⟩

theorem first18_any (x : Nat) (h0 : x ≠ 0) (hx : x < 18446744073709551616) (w : World) (T : Tab w) :
    Calls Tryd.prog 25 #[.int .u64 (x : Nat)] w fun e w' => e = .returned (.int .i64 ((Lib.ctz 64 x : Nat) + 1)) ∧ w' = w := by
  have C := hide (tz64_any x hx h0 w T)
  obtain ⟨-, -, hk⟩ := ctz_of x h0 hx
  generalize Lib.ctz 64 x = k at *
  go_enter Tryd.func25, Tryd.ntmps25
  go_wp2_with fail
  refine C.out.mono ?_
  rintro e w' ⟨rfl, rfl⟩
  go_wp2
  go_ret
  exact ⟨rfl, rfl⟩

theorem rest18_any (x : Nat) (h0 : x ≠ 0) (hx : x < 18446744073709551616) (w : World) :
    Calls Tryd.prog 24 #[.int .u64 (x : Nat)] w fun e w' => e = .returned (.int .u64 (x &&& (x - 1) : Nat)) ∧ w' = w := by
  have E1 : (x : Int) - 1 = ((x - 1 : Nat) : Int) := by omega
  have E2 : bits .and .u64 (x : Int) ((x : Int) - 1) = ((x &&& (x - 1) : Nat) : Int) := by rw [E1]; exact u64_and_nat x (x - 1) hx (by omega)
  have hp : (1 : Int) ≤ x := by omega
  generalize ((x &&& (x - 1) : Nat) : Int) = z at *
  clear E1
  go_enter Tryd.func24, Tryd.ntmps24
  go_wp2_with fail
  go_ret
  exact ⟨rfl, rfl⟩
end Go.Proofs.YtgaphbncefphbaaDoor
