/-
  Package seal, first part: isDonor, sound, tag, allBelowP, written, read.
-/
import Derived.Test.YtdnnpomnjblaeaaDoorSealN
import Derived.Laws.CopyOwn
namespace Go.Proofs.YtdnnpomnjblaeaaDoor
open Go.RowKit Cha Limb Sl
set_option linter.unusedVariables false

/-- A way, as a value. -/
def wayV (s p : Nat) (f t : Int) : List Value := [.int .u64 (s : Nat), .int .u64 (p : Nat), .int .i64 f, .int .i64 t]

theorem isDonor_any (z : Int) (w : World) :
    Calls Tryd.prog 26 #[.int .i64 z] w fun e w' => e = .returned (.bool (donP z)) ∧ w' = w := by
  by_cases h1 : 1 ≤ z
  · by_cases h2 : z ≤ 64
    · have d1 : decide (1 ≤ z) = true := decide_eq_true h1
      have d2 : decide (z ≤ 64) = true := decide_eq_true h2
      have E : donP z = true := by simp [donP, h1, h2]
      rw [E]
      clear h1 h2 E
      go_enter Tryd.func26, Tryd.ntmps26
      go_wp2
      go_ret
      exact ⟨by first | rfl | simp [d2], rfl⟩
    · have d1 : decide (1 ≤ z) = true := decide_eq_true h1
      have d2 : decide (z ≤ 64) = false := decide_eq_false h2
      have E : donP z = false := by simp [donP, h2]
      rw [E]
      clear h1 h2 E
      go_enter Tryd.func26, Tryd.ntmps26
      go_wp2
      go_ret
      exact ⟨by first | rfl | simp [d2], rfl⟩
  · have d1 : decide (1 ≤ z) = false := decide_eq_false h1
    have E : donP z = false := by simp [donP, h1]
    rw [E]
    clear h1 E
    go_enter Tryd.func26, Tryd.ntmps26
    go_wp2
    go_ret
    exact ⟨rfl, rfl⟩

theorem sound_any (s p : Nat) (f t : Int) (w : World) :
    Calls Tryd.prog 16 #[.agg (wayV s p f t).toArray] w fun e w' => e = .returned (.bool (donP f && donP t)) ∧ Old w w' := by
  unfold wayV
  have O := Old.of_alloc w (.cells #[.int .u64 (s : Nat), .int .u64 (p : Nat), .int .i64 f, .int .i64 t] 44)
  have C1 := hide (isDonor_any f)
  have C2 := hide (isDonor_any t)
  cases h1 : donP f
  · rw [h1] at C1
    go_enter Tryd.func16, Tryd.ntmps16
    go_wp2_with fail
    refine (C1.out _).mono ?_
    rintro e w1 ⟨rfl, rfl⟩
    go_wp2
    go_ret
    exact ⟨rfl, O⟩
  · rw [h1] at C1
    go_enter Tryd.func16, Tryd.ntmps16
    go_wp2_with fail
    refine (C1.out _).mono ?_
    rintro e w1 ⟨rfl, rfl⟩
    go_wp2_with fail
    refine (C2.out _).mono ?_
    rintro e w1 ⟨rfl, rfl⟩
    go_wp2
    go_ret
    exact ⟨by simp, O⟩

theorem tag_any (s p f t : Nat) (hf : f ≤ 64) (ht : t ≤ 64) (w : World) :
    Calls Tryd.prog 30 #[.agg (wayV s p f t).toArray] w fun e w' => e = .returned (.int .u32 (tagN f t : Nat)) ∧ Old w w' := by
  unfold wayV
  have O := Old.of_alloc w (.cells #[.int .u64 (s : Nat), .int .u64 (p : Nat), .int .i64 (f : Nat), .int .i64 (t : Nat)] 44)
  go_enter Tryd.func30, Tryd.ntmps30
  go_wp2
  go_ret
  refine ⟨congrArg (fun z => Ending.returned (.int .u32 z)) ?_, O⟩
  unfold tagN
  show _ = _
  omega

set_option maxHeartbeats 1000000 in
theorem allBelowP_any (xs : List Nat) (a : Option Addr) (n cap : Nat) (hl : xs.length = n) (hn : n ≤ 70368744177664) (w : World) (rd : Rd w a (nums .u64 xs)) :
    Calls Tryd.prog 17 #[.slice a n cap] w fun e w' => e = .returned (.bool (belowP xs)) ∧ w' = w := by
  have HL := hide hl
  clear hl
  go_enter Tryd.func17, Tryd.ntmps17
  go_wp2_with fail
  go_loop [7] (fun vi => ∃ k : Nat, k ≤ n ∧ vi = .int .i64 (k : Nat) ∧ Hid (belowP (xs.take k) = true)) (fun vi => (n - intOf vi).toNat)
  case atStart => exact ⟨0, by omega, rfl, by show belowP (xs.take 0) = true; rfl⟩
  case round =>
    obtain ⟨k, hk, rfl, H⟩ := hrel
    by_cases hkn : k = n
    · subst hkn
      have E : Hid (belowP xs = true) := by
        show _ = _
        have := H.out
        rwa [List.take_of_length_le (by rw [HL.out]; omega)] at this
      go_wp2
      go_ret
      exact ⟨by rw [E.out]; rfl, rfl⟩
    · have hkl : k < n := by omega
      obtain ⟨b, off, x, rfl, Hx, hc⟩ := rd.num (i := k) (by rw [HL.out]; exact hkl)
      have hki : (0 : Int) ≤ k := by omega
      have hki2 : (k : Int) < n := by omega
      by_cases hx : x < 2305843009213693951
      · have d1 : decide ((2305843009213693951 : Int) ≤ x) = false := decide_eq_false (by omega)
        have E : Hid (belowP (xs.take (k + 1)) = true) := by
          show _ = _
          have := H.out
          unfold belowP at this ⊢
          rw [List.take_add_one, Hx.out, List.all_append, this]
          simp [hx]
        clear hx
        go_wp2
        go_round
        case rel => exact ⟨k + 1, by omega, by go_num, E⟩
        case measure => simp [intOf]; omega
      · have d1 : decide ((2305843009213693951 : Int) ≤ x) = true := decide_eq_true (by omega)
        have E : Hid (belowP xs = false) := by
          show _ = _
          unfold belowP
          rw [List.all_eq_false]
          exact ⟨x, List.mem_of_getElem? Hx.out, by simp; omega⟩
        clear hx
        go_wp2
        go_ret
        exact ⟨by rw [E.out]; rfl, rfl⟩

theorem at_pt (s : List Nat) (i x : Nat) (h : s[i]? = some x) : (nums .u8 s)[i]? = some (.int .u8 (x : Nat)) := by simp [nums, h]

/-- A row of the call's own, of this many bytes. -/
structure RowB (w : World) (g : Nat) (ys : List Nat) (wr : World) : Prop where
  r : Row wr g 5 (nums .u8 ys)
  old : Old w wr
  le : w.heap.size ≤ g
theorem RowB.set {w : World} {g : Nat} {ys : List Nat} {wr : World} (h : RowB w g ys wr) (i y : Nat) : RowB w g (ys.set i y) (wr.setCell ⟨g, i, none⟩ (.int .u8 (y : Int))) :=
  ⟨by rw [← nums_set]; exact h.r.set _ _, h.old.grown (grown_set _ _ _ _) h.le, h.le⟩
theorem RowB.drewN {w : World} {g : Nat} {ys : List Nat} {wr : World} (h : RowB w g ys wr) (n : Nat) : RowB w g ys (wr.drewN n) := ⟨h.r.drewN n, h.old.drewN n, h.le⟩
structure RowN (w : World) (g : Nat) (ys : List Nat) (wr : World) : Prop where
  r : Row wr g 22 (nums .u64 ys)
  old : Old w wr
  le : w.heap.size ≤ g
theorem RowN.set {w : World} {g : Nat} {ys : List Nat} {wr : World} (h : RowN w g ys wr) (i y : Nat) : RowN w g (ys.set i y) (wr.setCell ⟨g, i, none⟩ (.int .u64 (y : Int))) :=
  ⟨by rw [← nums_set]; exact h.r.set _ _, h.old.grown (grown_set _ _ _ _) h.le, h.le⟩
theorem RowN.drewN {w : World} {g : Nat} {ys : List Nat} {wr : World} (h : RowN w g ys wr) (n : Nat) : RowN w g ys (wr.drewN n) := ⟨h.r.drewN n, h.old.drewN n, h.le⟩
theorem tdiv8 (k : Nat) : Int.tdiv (k : Int) 8 = ((k / 8 : Nat) : Int) := by
  rw [Int.tdiv_eq_ediv_of_nonneg (by omega)]; omega
theorem tmod8 (k : Nat) : Int.tmod (k : Int) 8 = ((k % 8 : Nat) : Int) := by
  rw [Int.tmod_eq_emod_of_nonneg (by omega)]; omega

set_option maxHeartbeats 2000000 in
theorem written_any (xs : List Nat) (a : Option Addr) (n cap : Nat) (hl : xs.length = n) (hn : n ≤ 8) (hb : ∀ x ∈ xs, x < 18446744073709551616) (w : World) (rd : Rd w a (nums .u64 xs)) :
    Calls Tryd.prog 19 #[.slice a n cap] w fun e w' => ∃ g, w.heap.size ≤ g ∧ e = .returned (.slice (some ⟨g, 0, none⟩) (8 * n) (8 * n)) ∧ Row w' g 5 (nums .u8 (wr8 xs)) ∧ Old w w' := by
  have HL := hide hl
  have HB := hide hb
  obtain ⟨m, hm⟩ : ∃ m, m = 8 * n := ⟨_, rfl⟩
  have hmk := make_bytes m (by omega)
  rw [show (m : Int) = 8 * (n : Int) by omega] at hmk
  have R0 : Hid (RowB w w.heap.size (partF m (wB xs) 0) (w.alloc (.cells (nums .u8 (List.replicate m 0)).toArray 5))) := by
    refine ⟨?_, Old.of_alloc _ _, Nat.le_refl _⟩
    rw [partF_zero]
    exact Row.new _ _ _
  rw [← hm]
  clear hl hb
  go_enter Tryd.func19, Tryd.ntmps19
  go_wp2_with fail
  clear hmk
  rw [show (8 * (n : Int)) = (m : Int) by omega, ← hm]
  have HM := hide hm
  clear hm
  go_loopw [11] (fun vi wr => ∃ k : Nat, k ≤ m ∧ vi = .int .i64 (k : Nat) ∧ Hid (RowB w w.heap.size (partF m (wB xs) k) wr)) (fun vi _ => (m - intOf vi).toNat)
  case atStart => exact ⟨0, by omega, rfl, R0⟩
  case round =>
    clear R0
    obtain ⟨k, hk, rfl, R⟩ := hrel
    by_cases hkm : k = m
    · subst hkm
      go_wp2
      go_ret
      refine ⟨_, Nat.le_refl _, rfl, ?_, R.out.old⟩
      have := R.out.r
      rw [partF_all] at this
      unfold wr8
      rw [HL.out, ← HM.out]
      exact this
    · have hkl : k < m := by omega
      have k8 : k / 8 < n := by have := HM.out; omega
      obtain ⟨b, off, x, rfl, Hx, hc0⟩ := rd.num (i := k / 8) (by rw [HL.out]; exact k8)
      have hc := R.out.old.cell hc0
      have hf := R.out.r.free k
      have hs := R.out.r.some (i := k) (by rw [partF_length]; exact hkl)
      have E : Hid (((x : Nat) : Int) / 2 ^ (8 * (k % 8)) % 256 = ((wB xs k : Nat) : Int)) := shr8 (wB_eq Hx.out)
      have R2 := hide (R.out.set k (wB xs k))
      rw [partF_step _ _ _ hkl, ← E.out] at R2
      have td := tdiv8 k
      have tm := tmod8 k
      have hki : (0 : Int) ≤ k := by omega
      have hki2 : (k : Int) < m := by omega
      have q0 : (0 : Int) ≤ ((k / 8 : Nat) : Int) := by omega
      have q1 : ((k / 8 : Nat) : Int) < (n : Int) := by omega
      clear hc0 E
      go_wp2
      go_roundw
      case rel => exact ⟨k + 1, by omega, by go_num, R2⟩
      case measure => simp [intOf]; omega
end Go.Proofs.YtdnnpomnjblaeaaDoor
