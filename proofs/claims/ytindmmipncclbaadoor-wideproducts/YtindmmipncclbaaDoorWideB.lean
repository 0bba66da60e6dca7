/-
  Package wide: what Shift, Compare answer.
-/
import Derived.Test.YtindmmipncclbaaDoorWideA
import Derived.Laws.Bits64b
namespace Go.Proofs.YtindmmipncclbaaDoor
open Go.RowKit Wd
set_option linter.unusedVariables false

theorem isNaN_any (x : Int) (w : World) :
    Calls Tryd.prog 32 #[.int .u64 x] w fun e w' => e = .returned (.bool false) ∧ w' = w := by
  go_enter Tryd.func32, Tryd.ntmps32
  go_wp2
  go_ret
  exact ⟨by simp, rfl⟩

theorem Compare64_any (x y : Nat) (w : World) :
    Calls Tryd.prog 28 #[.int .u64 (x : Nat), .int .u64 (y : Nat)] w fun e w' => e = .returned (.int .i64 (cmpZ x y)) ∧ w' = w := by
  have C := hide isNaN_any
  rcases Nat.lt_trichotomy x y with h | h | h
  · have e : cmpZ x y = -1 := cmpZ_lt h
    rw [e]
    have t1 : decide ((x : Int) < y) = true := by simpa using h
    go_enter Tryd.func28, Tryd.ntmps28
    go_wp2_with (refine (C.out _ _).mono ?_; rintro e w' ⟨rfl, rfl⟩)
    go_ret
    exact ⟨rfl, rfl⟩
  · subst h
    rw [cmpZ_eq]
    have t1 : decide ((x : Int) < x) = false := by simp
    go_enter Tryd.func28, Tryd.ntmps28
    go_wp2_with (refine (C.out _ _).mono ?_; rintro e w' ⟨rfl, rfl⟩)
    go_ret
    exact ⟨rfl, rfl⟩
  · rw [cmpZ_gt h]
    have t1 : decide ((x : Int) < y) = false := by simp; omega
    have t2 : decide ((y : Int) < x) = true := by simpa using h
    have t3 : decide ((x : Int) > y) = true := by simpa using h
    go_enter Tryd.func28, Tryd.ntmps28
    go_wp2_with (refine (C.out _ _).mono ?_; rintro e w' ⟨rfl, rfl⟩)
    go_ret
    exact ⟨rfl, rfl⟩

theorem split_hl {x : Nat} (hx : x < M) : x = hi x * 18446744073709551616 + lo x := by rw [hi_lo]; exact (Nat.mod_eq_of_lt hx).symm

set_option maxHeartbeats 1000000 in
theorem Compare_any9 : CmpC9 := by
  intro x y hx hy w
  have lx := lo_lt x
  have ly := lo_lt y
  have sx := split_hl hx
  have sy := split_hl hy
  have O2 : ∀ a b : Obj, Old w ((w.alloc a).alloc b) := fun a b => (Old.of_alloc w a).alloc b
  by_cases h1 : hi x = hi y
  · by_cases h2 : lo x = lo y
    · have hxy : x = y := by rw [sx, sy, h1, h2]
      subst hxy
      rw [cmpZ_eq]
      unfold wv
      generalize hi x = h
      generalize lo x = l
      go_enter Tryd.func22, Tryd.ntmps22
      go_wp2
      go_ret
      exact ⟨rfl, O2 _ _⟩
    · have C := hide (fun w => Compare64_any (lo x) (lo y) w)
      have e : cmpZ (lo x) (lo y) = cmpZ x y := by
        rcases Nat.lt_trichotomy (lo x) (lo y) with h | h | h
        · rw [cmpZ_lt h, cmpZ_lt (by omega)]
        · exact absurd h h2
        · rw [cmpZ_gt h, cmpZ_gt (by omega)]
      rw [e] at C
      unfold wv
      rw [← h1]
      have t2 : ((lo x : Int) == (lo y : Int)) = false := by simp; omega
      clear sx sy lx ly hx hy e h1
      revert C t2 h2
      generalize cmpZ x y = cz
      generalize hi x = h
      generalize lo x = l
      generalize lo y = l'
      intro h2 C t2
      go_enter Tryd.func22, Tryd.ntmps22
      go_wp2_with (refine (C.out _).mono ?_; rintro e w' ⟨rfl, rfl⟩)
      go_ret
      exact ⟨rfl, O2 _ _⟩
  · have C := hide (fun w => Compare64_any (hi x) (hi y) w)
    have e : cmpZ (hi x) (hi y) = cmpZ x y := by
      rcases Nat.lt_trichotomy (hi x) (hi y) with h | h | h
      · rw [cmpZ_lt h, cmpZ_lt (by omega)]
      · exact absurd h h1
      · rw [cmpZ_gt h, cmpZ_gt (by omega)]
    rw [e] at C
    unfold wv
    have t2 : ((hi x : Int) == (hi y : Int)) = false := by simp; omega
    clear sx sy lx ly hx hy e
    revert C t2 h1
    generalize cmpZ x y = cz
    generalize hi x = h
    generalize lo x = l
    generalize hi y = h'
    generalize lo y = l'
    intro h1 C t2
    go_enter Tryd.func22, Tryd.ntmps22
    go_wp2_with (refine (C.out _).mono ?_; rintro e w' ⟨rfl, rfl⟩)
    go_ret
    exact ⟨rfl, O2 _ _⟩

theorem times_pos {n : Int} (h1 : 1 ≤ n) (h2 : n < 128) : ∃ k : Nat, n = k ∧ 1 ≤ k ∧ k < 128 ∧ times n = k := by
  refine ⟨n.toNat, by omega, by omega, by omega, ?_⟩
  unfold times
  omega

/-- Both halves, moved up by less than a half. -/
theorem shift_low {x k : Nat} (hx : x < M) (h1 : 1 ≤ k) (h2 : k < 64) : hi (x * 2 ^ k) = hi x * 2 ^ k % 18446744073709551616 + lo x / 2 ^ (64 - k) ∧ lo (x * 2 ^ k) = lo x * 2 ^ k % 18446744073709551616 ∧ lo x / 2 ^ (64 - k) < 2 ^ k ∧ 2 ^ k ∣ hi x * 2 ^ k % 18446744073709551616 := by
  have sx := split_hl hx
  have lx := lo_lt x
  have e64 : 18446744073709551616 = 2 ^ (64 - k) * 2 ^ k := by rw [← Nat.pow_add, show 64 - k + k = 64 by omega]
  have hp : 0 < 2 ^ k := Nat.pow_pos (by omega)
  have hq : 0 < 2 ^ (64 - k) := Nat.pow_pos (by omega)
  have hlt : lo x / 2 ^ (64 - k) < 2 ^ k := by
    rw [Nat.div_lt_iff_lt_mul hq, Nat.mul_comm, ← e64]; exact lx
  have hdv : 2 ^ k ∣ hi x * 2 ^ k % 18446744073709551616 := by
    rw [Nat.dvd_mod_iff ⟨2 ^ (64 - k), by rw [Nat.mul_comm]; exact e64⟩]
    exact Nat.dvd_mul_left _ _
  refine ⟨?_, ?_, hlt, hdv⟩
  · unfold hi at *
    have e1 : x * 2 ^ k / 18446744073709551616 = hi x * 2 ^ k + lo x / 2 ^ (64 - k) := by
      have : lo x * 2 ^ k / 18446744073709551616 = lo x / 2 ^ (64 - k) := by
        rw [e64, Nat.mul_div_mul_right _ _ hp]
      rw [← this]
      have e : x * 2 ^ k = hi x * 2 ^ k * 18446744073709551616 + lo x * 2 ^ k := by
        conv => lhs; rw [sx]
        rw [Nat.add_mul, Nat.mul_right_comm]
        rfl
      rw [e]
      generalize hi x * 2 ^ k = a
      generalize lo x * 2 ^ k = b
      omega
    rw [e1]
    unfold hi
    obtain ⟨c, hc⟩ := hdv
    have h64 : hi x * 2 ^ k % 18446744073709551616 + lo x / 2 ^ (64 - k) < 18446744073709551616 := by
      unfold hi
      have hm := Nat.mod_lt (x / 18446744073709551616 % 18446744073709551616 * 2 ^ k) (show 0 < 18446744073709551616 by omega)
      rw [hc] at hm ⊢
      rw [e64] at hm ⊢
      have hc2 : c < 2 ^ (64 - k) := by
        rw [Nat.mul_comm (2 ^ k)] at hm
        exact Nat.lt_of_mul_lt_mul_right hm
      have : 2 ^ k * (c + 1) ≤ 2 ^ k * 2 ^ (64 - k) := Nat.mul_le_mul_left _ hc2
      rw [Nat.mul_add, Nat.mul_one, Nat.mul_comm (2 ^ k) (2 ^ (64 - k))] at this
      omega
    unfold hi at h64
    generalize x / 18446744073709551616 % 18446744073709551616 * 2 ^ k = a at *
    generalize lo x / 2 ^ (64 - k) = b at *
    omega
  · unfold lo
    rw [Nat.mod_mul_mod]

theorem or_add {a b c k : Nat} (hb : b < 2 ^ k) (hc : a = 2 ^ k * c) (ha : a < 18446744073709551616) (hs : a + b < 18446744073709551616) : bits .or .u64 (a : Int) (b : Int) = ((a + b : Nat) : Int) := by
  rw [bits_or_u64_nat a b ha (by omega)]
  congr 1
  rw [hc, Nat.two_pow_add_eq_or_of_lt hb]
theorem shl_wrap (l k : Nat) : IntKind.u64.wrap ((l : Int) * 2 ^ k) = ((l * 2 ^ k % 18446744073709551616 : Nat) : Int) := by
  show ((l : Int) * 2 ^ k) % 18446744073709551616 = _
  rw [show (l : Int) * 2 ^ k = ((l * 2 ^ k : Nat) : Int) by simp]
  omega
theorem shr_nat (l m : Nat) : (l : Int) / 2 ^ m = ((l / 2 ^ m : Nat) : Int) := by simp

set_option maxHeartbeats 1000000 in
theorem Shift_any9 : ShiftC9 := by
  intro x n hx hn1 hn2 w
  have O2 : ∀ a b : Obj, Old w ((w.alloc a).alloc b) := fun a b => (Old.of_alloc w a).alloc b
  by_cases h0 : n < 1
  · have e : x * 2 ^ times n = x := by
      have : times n = 0 := by unfold times; omega
      rw [this]; omega
    rw [e]
    have t0 : decide (n < 1) = true := by simpa using h0
    unfold wv
    generalize hi x = h
    generalize lo x = l
    go_enter Tryd.func20, Tryd.ntmps20
    go_wp2
    simp [bodyPost, results, Tryd.results20, go_sem]
    exact O2 _ _
  have t0 : decide (n < 1) = false := by simp; omega
  by_cases h1 : n < 128
  · obtain ⟨k, rfl, k1, k2, ek⟩ := times_pos (by omega) h1
    rw [ek]
    by_cases h2 : k < 64
    · obtain ⟨s1, s2, s3, c, s4⟩ := shift_low hx k1 h2
      have t1 : decide ((k : Int) < 64) = true := by simp; omega
      have g1 : (0 : Int) ≤ 64 - k := by omega
      obtain ⟨m, hm⟩ : ∃ m : Nat, m = 64 - k := ⟨_, rfl⟩
      have em : (64 : Int) - k = (m : Int) := by omega
      rw [← hm] at s1 s3
      have z1 := shl_wrap (hi x) k
      have z2 := shr_nat (lo x) m
      have z4 := shl_wrap (lo x) k
      have z3 := or_add s3 s4 (Nat.mod_lt _ (by omega)) (by rw [← s1]; exact hi_lt _)
      rw [← s1] at z3
      rw [← s2] at z4
      unfold wv
      clear s1 s2 s3 s4 hx ek hm h1 hn1 hn2 k2
      revert z1 z2 z3 z4
      generalize hi x * 2 ^ k % 18446744073709551616 = a
      generalize lo x / 2 ^ m = b
      generalize hi (x * 2 ^ k) = s
      generalize lo (x * 2 ^ k) = t
      generalize hi x = h
      generalize lo x = l
      intro z1 z2 z3 z4
      go_enter Tryd.func20, Tryd.ntmps20
      go_wp2_with fail
      go_region
      go_wp2
      simp [bodyPost, results, Tryd.results20, go_sem]
      exact (O2 _ _).drew
    · have t1 : decide ((k : Int) < 64) = false := by simp; omega
      have t2 : decide ((k : Int) < 128) = true := by simp; omega
      obtain ⟨m, hm⟩ : ∃ m : Nat, k = 64 + m := ⟨k - 64, by omega⟩
      have em : (k : Int) - 64 = (m : Int) := by omega
      have z1 := shl_wrap (lo x) m
      have s1 : lo x * 2 ^ m % 18446744073709551616 = hi (x * 2 ^ k) ∧ lo (x * 2 ^ k) = 0 := by
        rw [hm, Nat.pow_add, ← Nat.mul_assoc, Nat.mul_right_comm]
        unfold hi lo
        rw [show (2 : Nat) ^ 64 = 18446744073709551616 from rfl, Nat.mul_div_cancel _ (by omega), Nat.mul_mod_left, Nat.mod_mul_mod]
        exact ⟨rfl, rfl⟩
      rw [s1.1] at z1
      unfold wv
      rw [s1.2]
      have c2 : (m : Int) ≤ 64 := by omega
      clear s1 hx ek h1 hn1 hn2 k2 h2 hm
      revert z1
      generalize hi (x * 2 ^ k) = s
      generalize hi x = h
      generalize lo x = l
      intro z1
      have c1 : (0 : Int) ≤ m := by omega
      go_enter Tryd.func20, Tryd.ntmps20
      go_wp2
      simp [bodyPost, results, Tryd.results20, go_sem]
      exact O2 _ _
  · have t1 : decide (n < 64) = false := by simp; omega
    have t2 : decide (n < 128) = false := by simp; omega
    have s1 : hi (x * 2 ^ times n) = 0 ∧ lo (x * 2 ^ times n) = 0 := by
      have : times n = 128 := by unfold times; omega
      rw [this, show (2 : Nat) ^ 128 = 18446744073709551616 * 18446744073709551616 from rfl, ← Nat.mul_assoc]
      unfold hi lo
      rw [Nat.mul_div_cancel _ (by omega), Nat.mul_mod_left, Nat.mul_mod_left]
      exact ⟨rfl, rfl⟩
    unfold wv
    rw [s1.1, s1.2]
    clear s1
    generalize hi x = h
    generalize lo x = l
    go_enter Tryd.func20, Tryd.ntmps20
    go_wp2
    simp [bodyPost, results, Tryd.results20, go_sem]
    exact O2 _ _
end Go.Proofs.YtindmmipncclbaaDoor
