/-
  Layer 9 as it landed: what wide's Add, Neg, Shift, Mul answer, told of whole numbers by 2^128.
-/
import Derived.Test.YthaaajepolahfaaRefWideB
import Derived.Test.YthaaajepolahfaaRefWideC
import Derived.Test.YthaaajepolahfaaMulD
import Derived.Test.YthaaajepolahfaaStatsN
import Derived.Shelf.Spec.BitsCarry
import Derived.Laws.Pointers
import Derived.Laws.Bits64b
namespace Go.Proofs.Ythaaajepolahfaa
open Go.RowKit Wd Pn
set_option linter.unusedVariables false

/- the library's sums and differences with what goes over, laid at this program -/
def carryRen : Go.Shelf.Ren := ⟨fun | 25 => 41 | 26 => 66 | n => n, fun | 22 => 25 | n => n, fun | n => n⟩
theorem addLays : Go.Proofs.Lays7.n25 Try.prog carryRen := {
  mixed := by kernel_rfl
  f25 := Try.func41.trans (congrArg some (by kernel_rfl))
  t22 := Try.underlying25
  a22 := Try.isAgg25
  z22 := Try.sizeOf25
  v22 := Try.zeroValue25
  i22 := by kernel_rfl }
theorem subLays : Go.Proofs.Lays7.n26 Try.prog carryRen := {
  mixed := by kernel_rfl
  f26 := Try.func66.trans (congrArg some (by kernel_rfl))
  t22 := Try.underlying25
  a22 := Try.isAgg25
  z22 := Try.sizeOf25
  v22 := Try.zeroValue25
  i22 := by kernel_rfl }
theorem add64_run (x y c s d : Nat) (hc : c ≤ 1) (hs : (x + y + c) % 18446744073709551616 = s) (hd : (x + y + c) / 18446744073709551616 = d) (w : World) :
    (callFunc 41 #[.int .u64 (x : Nat), .int .u64 (y : Nat), .int .u64 (c : Nat)]).run Try.prog w = .ok (.value (.tuple #[.int .u64 (s : Nat), .int .u64 (d : Nat)])) w := by
  have := Any7.bits_Add64 addLays x y c hc w
  rw [hs, hd] at this
  exact this
theorem sub64_run (x y c s d : Nat) (hc : c ≤ 1) (hs : (x + 18446744073709551616 - y - c) % 18446744073709551616 = s) (hd : (if x < y + c then 1 else 0) = d) (w : World) :
    (callFunc 66 #[.int .u64 (x : Nat), .int .u64 (y : Nat), .int .u64 (c : Nat)]).run Try.prog w = .ok (.value (.tuple #[.int .u64 (s : Nat), .int .u64 (d : Nat)])) w := by
  have := Any7.bits_Sub64 subLays x y c hc w
  rw [hs, hd] at this
  exact this

theorem Old.of_alloc3 (w : World) (a b c : Obj) : Old w (((w.alloc a).alloc b).alloc c) := ((Old.of_alloc w a).alloc b).alloc c

set_option maxHeartbeats 1000000 in
theorem add_any : ∀ x y : Nat, x < M → y < M → ∀ w : World, Calls Try.prog 25 #[wv x, wv y] w fun e w' => e = .returned (wv (x + y)) ∧ Old w w' := by
  intro x y hx hy w
  have A1 := fun w => add64_run (lo x) (lo y) 0 (lo (x + y)) ((lo x + lo y) / 18446744073709551616) (by omega) (by unfold lo; omega) (by omega) w
  have A2 := fun w => add64_run (hi x) (hi y) ((lo x + lo y) / 18446744073709551616) (hi (x + y)) ((hi x + hi y + (lo x + lo y) / 18446744073709551616) / 18446744073709551616) (by have := lo_lt x; have := lo_lt y; omega) (by unfold hi lo; omega) rfl w
  rw [show ((0 : Nat) : Int) = 0 from rfl] at A1
  unfold wv
  revert A1 A2
  generalize (hi x + hi y + (lo x + lo y) / 18446744073709551616) / 18446744073709551616 = d
  generalize (lo x + lo y) / 18446744073709551616 = c
  generalize lo (x + y) = s
  generalize hi (x + y) = t
  generalize hi x = h
  generalize lo x = l
  generalize hi y = h'
  generalize lo y = l'
  intro A1 A2
  go_enter Try.func25, Try.ntmps25
  go_wp2_with (first | simp only [A1] | simp only [A2])
  simp [bodyPost, results, Try.results25, go_sem]
  exact Old.of_alloc3 _ _ _ _

set_option maxHeartbeats 1000000 in
theorem sub_any : ∀ x y : Nat, x < M → y < M → ∀ w : World, Calls Try.prog 65 #[wv x, wv y] w fun e w' => e = .returned (wv (x + (M - y))) ∧ Old w w' := by
  intro x y hx hy w
  have A1 := fun w => sub64_run (lo x) (lo y) 0 (lo (x + (M - y))) (if lo x < lo y then 1 else 0) (by omega) (by unfold lo M at *; omega) (by rfl) w
  have A2 := fun w => sub64_run (hi x) (hi y) (if lo x < lo y then 1 else 0) (hi (x + (M - y))) (if hi x < hi y + (if lo x < lo y then 1 else 0) then 1 else 0) (by split <;> omega) (by unfold hi lo M at *; split <;> omega) rfl w
  rw [show ((0 : Nat) : Int) = 0 from rfl] at A1
  unfold wv
  revert A1 A2
  generalize (if hi x < hi y + (if lo x < lo y then 1 else 0) then 1 else 0) = d
  generalize (if lo x < lo y then 1 else 0) = c
  generalize lo (x + (M - y)) = s
  generalize hi (x + (M - y)) = t
  generalize hi x = h
  generalize lo x = l
  generalize hi y = h'
  generalize lo y = l'
  intro A1 A2
  go_enter Try.func65, Try.ntmps65
  go_wp2_with (first | simp only [A1] | simp only [A2])
  simp [bodyPost, results, Try.results65, go_sem]
  exact Old.of_alloc3 _ _ _ _

set_option maxHeartbeats 1000000 in
theorem neg_any : ∀ x : Nat, x < M → ∀ w : World, Calls Try.prog 60 #[wv x] w fun e w' => e = .returned (wv (M - x)) ∧ Old w w' := by
  intro x hx w
  have C := hide (fun w => sub_any 0 x (by unfold M; omega) hx w)
  rw [show 0 + (M - x) = M - x by omega] at C
  unfold wv at C ⊢
  rw [show hi 0 = 0 from rfl, show lo 0 = 0 from rfl] at C
  revert C
  generalize hi (M - x) = s
  generalize lo (M - x) = t
  generalize hi x = h
  generalize lo x = l
  intro C
  go_enter Try.func60, Try.ntmps60
  go_wp2_with fail
  refine (C.out _).mono ?_
  rintro e w1 ⟨rfl, o⟩
  have R := (Row.new (w.alloc (.cells #[.int .u64 (h : Nat), .int .u64 (l : Nat)] 27)) 27 [.int .u64 0, .int .u64 0]).mono o
  have O := (Old.of_alloc w (.cells #[.int .u64 (h : Nat), .int .u64 (l : Nat)] 27)).trans ((Old.of_alloc _ _).trans o)
  rw [size_allocW] at R
  clear o C
  go_wp2_with (refine wp_store_whole rfl 27 _ _ rfl (w.heap.size + 1) rfl [.int .u64 (s : Nat), .int .u64 (t : Nat)] rfl R infoW rfl (two_ints _ _) ?_; rintro w9 h9
               have E9 : Row w9 (w.heap.size + 1) 27 [.int .u64 (s : Nat), .int .u64 (t : Nat)] ∧ Old w w9 := by subst h9; exact ⟨R.whole _, O.grown (grown_setRow _ _ _) (by omega)⟩
               clear h9 R O)
  exact bodyPost_ret (v := .agg #[.int .u64 (s : Nat), .int .u64 (t : Nat)]) (results_whole rfl rfl E9.1 Try.underlying27 rfl infoW) rfl ⟨rfl, E9.2⟩

theorem split_hl {x : Nat} (hx : x < M) : x = hi x * 18446744073709551616 + lo x := by rw [hi_lo]; exact (Nat.mod_eq_of_lt hx).symm

theorem times_pos {n : Int} (h1 : 1 ≤ n) (h2 : n < 128) : ∃ k : Nat, n = k ∧ 1 ≤ k ∧ k < 128 ∧ times n = k := by
  refine ⟨n.toNat, by omega, by omega, by omega, ?_⟩
  unfold times
  omega

/-- Both halves, moved up by less than a half. -/
theorem shift_low {x k : Nat} (hx : x < M) (h1 : 1 ≤ k) (h2 : k < 64) : hi (x * 2 ^ k) = hi x * 2 ^ k % 18446744073709551616 + lo x / 2 ^ (64 - k) ∧ lo (x * 2 ^ k) = lo x * 2 ^ k % 18446744073709551616 ∧ lo x / 2 ^ (64 - k) < 2 ^ k ∧ 2 ^ k ∣ hi x * 2 ^ k % 18446744073709551616 := by
  have sx := split_hl hx
  have lx := lo_lt x
  have e64 : 18446744073709551616 = 2 ^ (64 - k) * 2 ^ k := by rw [← Nat.pow_add, show 64 - k + k = 64 by omega]
  have hp : 0 < 2 ^ k := Nat.pow_pos (by omega)
  have hq : 0 < 2 ^ (64 - k) := Nat.pow_pos (by omega)
  have hlt : lo x / 2 ^ (64 - k) < 2 ^ k := by
    rw [Nat.div_lt_iff_lt_mul hq, Nat.mul_comm, ← e64]; exact lx
  have hdv : 2 ^ k ∣ hi x * 2 ^ k % 18446744073709551616 := by
    rw [Nat.dvd_mod_iff ⟨2 ^ (64 - k), by rw [Nat.mul_comm]; exact e64⟩]
    exact Nat.dvd_mul_left _ _
  refine ⟨?_, ?_, hlt, hdv⟩
  · unfold hi at *
    have e1 : x * 2 ^ k / 18446744073709551616 = hi x * 2 ^ k + lo x / 2 ^ (64 - k) := by
      have : lo x * 2 ^ k / 18446744073709551616 = lo x / 2 ^ (64 - k) := by
        rw [e64, Nat.mul_div_mul_right _ _ hp]
      rw [← this]
      have e : x * 2 ^ k = hi x * 2 ^ k * 18446744073709551616 + lo x * 2 ^ k := by
        conv => lhs; rw [sx]
        rw [Nat.add_mul, Nat.mul_right_comm]
        rfl
      rw [e]
      generalize hi x * 2 ^ k = a
      generalize lo x * 2 ^ k = b
      omega
    rw [e1]
    unfold hi
    obtain ⟨c, hc⟩ := hdv
    have h64 : hi x * 2 ^ k % 18446744073709551616 + lo x / 2 ^ (64 - k) < 18446744073709551616 := by
      unfold hi
      have hm := Nat.mod_lt (x / 18446744073709551616 % 18446744073709551616 * 2 ^ k) (show 0 < 18446744073709551616 by omega)
      rw [hc] at hm ⊢
      rw [e64] at hm ⊢
      have hc2 : c < 2 ^ (64 - k) := by
        rw [Nat.mul_comm (2 ^ k)] at hm
        exact Nat.lt_of_mul_lt_mul_right hm
      have : 2 ^ k * (c + 1) ≤ 2 ^ k * 2 ^ (64 - k) := Nat.mul_le_mul_left _ hc2
      rw [Nat.mul_add, Nat.mul_one, Nat.mul_comm (2 ^ k) (2 ^ (64 - k))] at this
      omega
    unfold hi at h64
    generalize x / 18446744073709551616 % 18446744073709551616 * 2 ^ k = a at *
    generalize lo x / 2 ^ (64 - k) = b at *
    omega
  · unfold lo
    rw [Nat.mod_mul_mod]

theorem or_add {a b c k : Nat} (hb : b < 2 ^ k) (hc : a = 2 ^ k * c) (ha : a < 18446744073709551616) (hs : a + b < 18446744073709551616) : bits .or .u64 (a : Int) (b : Int) = ((a + b : Nat) : Int) := by
  rw [bits_or_u64_nat a b ha (by omega)]
  congr 1
  rw [hc, Nat.two_pow_add_eq_or_of_lt hb]
theorem shl_wrap (l k : Nat) : IntKind.u64.wrap ((l : Int) * 2 ^ k) = ((l * 2 ^ k % 18446744073709551616 : Nat) : Int) := by
  show ((l : Int) * 2 ^ k) % 18446744073709551616 = _
  rw [show (l : Int) * 2 ^ k = ((l * 2 ^ k : Nat) : Int) by simp]
  omega
theorem shr_nat (l m : Nat) : (l : Int) / 2 ^ m = ((l / 2 ^ m : Nat) : Int) := by simp

set_option maxHeartbeats 1000000 in
theorem shift_any : ∀ (x : Nat) (n : Int), x < M → -9223372036854775808 ≤ n → n ≤ 9223372036854775807 → ∀ w : World, Calls Try.prog 52 #[wv x, .int .i64 n] w fun e w' => e = .returned (wv (x * 2 ^ times n)) ∧ Old w w' := by
  intro x n hx hn1 hn2 w
  have O2 : ∀ a b : Obj, Old w ((w.alloc a).alloc b) := fun a b => (Old.of_alloc w a).alloc b
  by_cases h0 : n < 1
  · have e : x * 2 ^ times n = x := by
      have : times n = 0 := by unfold times; omega
      rw [this]; omega
    rw [e]
    have t0 : decide (n < 1) = true := by simpa using h0
    unfold wv
    generalize hi x = h
    generalize lo x = l
    go_enter Try.func52, Try.ntmps52
    go_wp2
    simp [bodyPost, results, Try.results52, go_sem]
    exact O2 _ _
  have t0 : decide (n < 1) = false := by simp; omega
  by_cases h1 : n < 128
  · obtain ⟨k, rfl, k1, k2, ek⟩ := times_pos (by omega) h1
    rw [ek]
    by_cases h2 : k < 64
    · obtain ⟨s1, s2, s3, c, s4⟩ := shift_low hx k1 h2
      have t1 : decide ((k : Int) < 64) = true := by simp; omega
      have g1 : (0 : Int) ≤ 64 - k := by omega
      obtain ⟨m, hm⟩ : ∃ m : Nat, m = 64 - k := ⟨_, rfl⟩
      have em : (64 : Int) - k = (m : Int) := by omega
      rw [← hm] at s1 s3
      have z1 := shl_wrap (hi x) k
      have z2 := shr_nat (lo x) m
      have z4 := shl_wrap (lo x) k
      have z3 := or_add s3 s4 (Nat.mod_lt _ (by omega)) (by rw [← s1]; exact hi_lt _)
      rw [← s1] at z3
      rw [← s2] at z4
      unfold wv
      clear s1 s2 s3 s4 hx ek hm h1 hn1 hn2 k2
      revert z1 z2 z3 z4
      generalize hi x * 2 ^ k % 18446744073709551616 = a
      generalize lo x / 2 ^ m = b
      generalize hi (x * 2 ^ k) = s
      generalize lo (x * 2 ^ k) = t
      generalize hi x = h
      generalize lo x = l
      intro z1 z2 z3 z4
      go_enter Try.func52, Try.ntmps52
      go_wp2_with fail
      go_region
      go_wp2
      simp [bodyPost, results, Try.results52, go_sem]
      exact (O2 _ _).drew
    · have t1 : decide ((k : Int) < 64) = false := by simp; omega
      have t2 : decide ((k : Int) < 128) = true := by simp; omega
      obtain ⟨m, hm⟩ : ∃ m : Nat, k = 64 + m := ⟨k - 64, by omega⟩
      have em : (k : Int) - 64 = (m : Int) := by omega
      have z1 := shl_wrap (lo x) m
      have s1 : lo x * 2 ^ m % 18446744073709551616 = hi (x * 2 ^ k) ∧ lo (x * 2 ^ k) = 0 := by
        rw [hm, Nat.pow_add, ← Nat.mul_assoc, Nat.mul_right_comm]
        unfold hi lo
        rw [show (2 : Nat) ^ 64 = 18446744073709551616 from rfl, Nat.mul_div_cancel _ (by omega), Nat.mul_mod_left, Nat.mod_mul_mod]
        exact ⟨rfl, rfl⟩
      rw [s1.1] at z1
      unfold wv
      rw [s1.2]
      have c2 : (m : Int) ≤ 64 := by omega
      clear s1 hx ek h1 hn1 hn2 k2 h2 hm
      revert z1
      generalize hi (x * 2 ^ k) = s
      generalize hi x = h
      generalize lo x = l
      intro z1
      have c1 : (0 : Int) ≤ m := by omega
      go_enter Try.func52, Try.ntmps52
      go_wp2
      simp [bodyPost, results, Try.results52, go_sem]
      exact O2 _ _
  · have t1 : decide (n < 64) = false := by simp; omega
    have t2 : decide (n < 128) = false := by simp; omega
    have s1 : hi (x * 2 ^ times n) = 0 ∧ lo (x * 2 ^ times n) = 0 := by
      have : times n = 128 := by unfold times; omega
      rw [this, show (2 : Nat) ^ 128 = 18446744073709551616 * 18446744073709551616 from rfl, ← Nat.mul_assoc]
      unfold hi lo
      rw [Nat.mul_div_cancel _ (by omega), Nat.mul_mod_left, Nat.mul_mod_left]
      exact ⟨rfl, rfl⟩
    unfold wv
    rw [s1.1, s1.2]
    clear s1
    generalize hi x = h
    generalize lo x = l
    go_enter Try.func52, Try.ntmps52
    go_wp2
    simp [bodyPost, results, Try.results52, go_sem]
    exact O2 _ _

theorem wv_mod (x : Nat) : wv (x % M) = wv x := by unfold wv; rw [(hl_mod x).1, (hl_mod x).2]
theorem wv_eq {x y : Nat} (h : x % M = y % M) : wv x = wv y := by rw [← wv_mod x, h, wv_mod]

/-- A whole number by 2^128. -/
def wz (z : Int) : Value := wv (zN z)
theorem wz_mod {n : Nat} {z : Int} (h : (n : Int) % 340282366920938463463374607431768211456 = z % 340282366920938463463374607431768211456) : wv n = wz z := wv_eq (zN_mod h)
theorem wz_nat (n : Nat) : wv n = wz (n : Int) := wz_mod rfl

theorem addZ (a b : Int) (w : World) : Calls Try.prog 25 #[wz a, wz b] w fun e w' => e = .returned (wz (a + b)) ∧ Old w w' := by
  have := add_any (zN a) (zN b) (zN_lt a) (zN_lt b) w
  rw [wz_mod (n := zN a + zN b) (z := a + b) (by have h1 := zN_cast a; have h2 := zN_cast b; rw [show ((zN a + zN b : Nat) : Int) = (zN a : Int) + (zN b : Int) from by omega, h1, h2]; exact (Int.add_emod a b _).symm)] at this
  exact this

theorem negZ (a : Int) (w : World) : Calls Try.prog 60 #[wz a] w fun e w' => e = .returned (wz (-a)) ∧ Old w w' := by
  have := neg_any (zN a) (zN_lt a) w
  rw [wz_mod (n := M - zN a) (z := -a) (by have := zN_cast a; have := zN_lt a; unfold M; omega)] at this
  exact this

theorem mulZ (a b : Nat) (ha : a < 18446744073709551616) (hb : b < 18446744073709551616) (w : World) : Calls Try.prog 42 #[.int .u64 (a : Nat), .int .u64 (b : Nat)] w fun e w' => e = .returned (wz ((a * b : Nat) : Int)) ∧ Old w w' := by
  have := mul_any a b ha hb w
  rw [wz_nat] at this
  exact this

theorem shiftZ (a : Int) (k : Nat) (hk : k < 128) (w : World) : Calls Try.prog 52 #[wz a, .int .i64 (k : Int)] w fun e w' => e = .returned (wz (a * 2 ^ k)) ∧ Old w w' := by
  have := shift_any (zN a) k (zN_lt a) (by omega) (by omega) w
  have e : times (k : Int) = k := by unfold times; omega
  rw [e, wz_mod (n := zN a * 2 ^ k) (z := a * 2 ^ k) (by
    have h := zN_cast a
    rw [show ((zN a * 2 ^ k : Nat) : Int) = (zN a : Int) * 2 ^ k by simp, h, Int.mul_emod, Int.emod_emod_of_dvd _ (Int.dvd_refl _), ← Int.mul_emod])] at this
  exact this
end Go.Proofs.Ythaaajepolahfaa
