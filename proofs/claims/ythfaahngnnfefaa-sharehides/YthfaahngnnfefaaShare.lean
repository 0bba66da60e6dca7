/-
  Package share: within, allBelowP, a curve's points, Split.
-/
import Derived.Test.YthfaahngnnfefaaPtRow
import Derived.Test.YthfaahngnnfefaaPolyThru
namespace Go.Proofs.Ythfaahngnnfefaa
open Go.RowKit M Pm
set_option linter.unusedVariables false

def withinB (z m : Int) : Bool := decide (1 ≤ z) && decide (z ≤ m)
theorem withinB_yes {z m : Int} (h1 : 1 ≤ z) (h2 : z ≤ m) : withinB z m = true := by simp [withinB, h1, h2]
theorem withinB_no {z m : Int} (h : z < 1 ∨ m < z) : withinB z m = false := by
  simp [withinB]; omega

theorem within_any (z m : Int) (w : World) :
    Calls Try.prog 21 #[.int .i64 z, .int .i64 m] w fun e w' => e = .returned (.bool (withinB z m)) ∧ w' = w := by
  by_cases h1 : 1 ≤ z
  · have d1 : decide (1 ≤ z) = true := decide_eq_true h1
    by_cases h2 : z ≤ m
    · have d2 : decide (z ≤ m) = true := decide_eq_true h2
      rw [withinB_yes h1 h2]
      go_enter Try.func21, Try.ntmps21
      go_wp2
      go_ret
      exact ⟨by first | rfl | simp [h2], rfl⟩
    · have d2 : decide (z ≤ m) = false := decide_eq_false h2
      rw [withinB_no (.inr (by omega))]
      go_enter Try.func21, Try.ntmps21
      go_wp2
      go_ret
      exact ⟨by first | rfl | simp [h2], rfl⟩
  · have d1 : decide (1 ≤ z) = false := decide_eq_false h1
    rw [withinB_no (.inl (by omega))]
    go_enter Try.func21, Try.ntmps21
    go_wp2
    go_ret
    exact ⟨rfl, rfl⟩

theorem anyBig_le {cs : List Nat} : ∀ {k m : Nat}, k ≤ m → anyBig cs k = true → anyBig cs m = true
  | k, 0, h, ht => by
    obtain rfl : k = 0 := by omega
    exact ht
  | k, m + 1, h, ht => by
    by_cases e : k = m + 1
    · rw [← e]; exact ht
    · rw [anyBig, anyBig_le (show k ≤ m by omega) ht]; rfl

set_option maxHeartbeats 1000000 in
theorem allBelowP_any (cs : List Nat) (n : Nat) (a : Option Addr) (cap : Nat) (w : World) (hN : Nums w a n cap cs) (hn : n ≤ 1099511627776) :
    Calls Try.prog 22 #[.slice a n cap] w fun e w' => e = .returned (.bool (!anyBig cs n)) ∧ w' = w := by
  obtain ⟨hl, _, hb, rd⟩ := hN
  have HL := hide hl
  have HB := hide hb
  clear hl hb
  go_enter Try.func22, Try.ntmps22
  go_wp2_with fail
  go_loop [7] (fun vi => ∃ k : Nat, k ≤ n ∧ vi = .int .i64 (k : Nat) ∧ Hid (anyBig cs k = false)) (fun vi => (n - intOf vi).toNat)
  case atStart => exact ⟨0, by omega, rfl, rfl⟩
  case round =>
    obtain ⟨k, hk, rfl, H⟩ := hrel
    by_cases hkn : k = n
    · subst hkn
      have hd : decide ((k : Int) < k) = false := decide_eq_false (by omega)
      go_wp2
      go_ret
      rw [H.out]
      exact ⟨rfl, rfl⟩
    · have hkl : k < n := by omega
      obtain ⟨b, off, y, rfl, Hy, hcy⟩ := rd.num (i := k) (by rw [HL.out]; exact hkl)
      have ly := HB.out y (List.mem_of_getElem? Hy.out)
      have ey : Hid (anyBig cs (k + 1) = decide (2305843009213693951 ≤ y)) := by
        show _ = _
        rw [anyBig, H.out, List.getD_eq_getElem?_getD, Hy.out]; rfl
      have k0 : (0 : Int) ≤ k := by omega
      have k1 : (k : Int) < n := by omega
      have d0 : decide ((k : Int) < n) = true := decide_eq_true k1
      by_cases hy : 2305843009213693951 ≤ y
      · have d1 : decide ((2305843009213693951 : Int) ≤ y) = true := decide_eq_true (by omega)
        have E : Hid (anyBig cs n = true) := anyBig_le (show k + 1 ≤ n by omega) (by rw [ey.out]; exact decide_eq_true hy)
        clear hy
        go_wp2
        go_ret
        rw [E.out]
        exact ⟨rfl, rfl⟩
      · have d1 : decide ((2305843009213693951 : Int) ≤ y) = false := decide_eq_false (by omega)
        have E : Hid (anyBig cs (k + 1) = false) := by show _ = _; rw [ey.out]; exact decide_eq_false hy
        clear hy
        go_wp2
        go_round
        case rel => exact ⟨k + 1, by omega, by go_num, E⟩
        case measure => simp [intOf]; omega

set_option maxHeartbeats 1000000 in
theorem point_any (c : List Nat) (n : Nat) (a : Option Addr) (cap x : Nat) (w : World) (hN : Nums w a n cap c) (hn : n ≤ 1048576) (hx : x ≤ 1048576) :
    Calls Try.prog 24 #[.slice a n cap, .int .i64 (x : Nat)] w fun e w' => e = .returned (.agg #[.int .i64 (x : Nat), .int .u64 (evN c x : Nat)]) ∧ Old w w' := by
  have HI : Hid ((Try.prog.info? 30).map (·.size) = some 2) := by show _ = _; kernel_rfl
  have C1 : Hid (Calls Try.prog 34 #[.slice a n cap, .int .u64 (x : Nat)] (w.alloc (.cells #[.int .i64 0, .int .u64 0] 30)) fun e w' => e = .returned (.int .u64 (evN c x : Nat)) ∧ ∃ m, w' = (w.alloc (.cells #[.int .i64 0, .int .u64 0] 30)).drewN m) :=
    polyAt_nums (hN.mono (Old.of_alloc _ _)) hn x (by omega)
  have R0 : Hid (∀ m, Row ((w.alloc (.cells #[.int .i64 0, .int .u64 0] 30)).drewN m) w.heap.size 30 [.int .i64 0, .int .u64 0]) := fun m => (Row.new w 30 [.int .i64 0, .int .u64 0]).drewN m
  go_enter Try.func24, Try.ntmps24
  go_wp2_with fail
  refine C1.out.mono ?_
  rintro e w1 ⟨rfl, m, rfl⟩
  have R1 := R0.out m
  have O1 := (Old.of_alloc w (.cells #[.int .i64 0, .int .u64 0] 30)).drewN m
  clear C1 R0
  revert R1 O1
  generalize (w.alloc (.cells #[.int .i64 0, .int .u64 0] 30)).drewN m = V
  intro R1 O1
  go_wp2_with (refine wp_store_whole rfl 30 _ _ rfl w.heap.size rfl [.int .i64 (x : Nat), .int .u64 (evN c x : Nat)] rfl R1 HI.out rfl (by intro v hv; simp at hv; rcases hv with rfl | rfl <;> rfl) ?_; rintro w2 h2; have R2 : Row w2 w.heap.size 30 [.int .i64 (x : Nat), .int .u64 (evN c x : Nat)] := (by rw [h2]; exact R1.whole _); have O2 : Old w w2 := (by rw [h2]; exact O1.grown (grown_setRow _ _ _) (Nat.le_refl _)); clear h2)
  all_goals exact bodyPost_ret (v := .agg #[.int .i64 (x : Nat), .int .u64 (evN c x : Nat)]) (results_whole rfl rfl R2 Try.underlying30 rfl HI.out) rfl ⟨rfl, O2⟩
end Go.Proofs.Ythfaahngnnfefaa
