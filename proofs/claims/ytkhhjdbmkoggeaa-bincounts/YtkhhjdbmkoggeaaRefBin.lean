/-
  The document's own Bin, and offertoryref01.Ints: what they answer.
-/
import Derived.Test.YtkhhjdbmkoggeaaRefClamp
import Derived.Test.YtkhhjdbmkoggeaaBinN
import Derived.Test.YtkhhjdbmkoggeaaCalm
namespace Go.Proofs.Ytkhhjdbmkoggeaa
open Go.RowKit Pn
set_option linter.unusedVariables false

theorem take_stepI {xs ys : List Int} {k : Nat} (h : xs.take k = ys.take k) (hx : k < xs.length) (hy : k < ys.length) (e : xs.getD k 0 = ys.getD k 0) : xs.take (k + 1) = ys.take (k + 1) := by
  rw [List.take_add_one, List.take_add_one, h]
  congr 1
  simp [List.getD, hx, hy] at e
  simp [hx, hy, e]

set_option maxHeartbeats 1000000 in
theorem Ints_any (n m : Nat) (xs ys : List Int) (a b : Option Addr) (ca cb : Nat) (w : World) (hn : n ≤ 9223372036854775807)
    (hx : xs.length = n) (hy : ys.length = m) (rx : Rd w a (ints xs)) (ry : Rd w b (ints ys)) :
    Calls Try.prog 12 #[.slice a n ca, .slice b m cb] w fun e w' => e = .returned (.bool (decide (xs = ys))) ∧ Old w w' := by
  have HX := hide hx
  have HY := hide hy
  have HN := hide hn
  clear hx hy hn
  by_cases hnm : n = m
  · subst hnm
    go_enter Try.func12, Try.ntmps12
    go_wp2
    go_loopw [5] (fun i wr => ∃ k : Nat, k ≤ n ∧ i = .int .i64 k ∧ Hid (xs.take k = ys.take k) ∧ Old w wr) (fun i _ => n - (intOf i).toNat)
    case atStart => exact ⟨0, Nat.zero_le _, rfl, by show xs.take 0 = ys.take 0; simp, Old.refl _⟩
    case round =>
      obtain ⟨k, hk, rfl, H, hol⟩ := hrel
      by_cases hlt : k < n
      · have l1 := hide (show k < xs.length by have := HX.out; omega)
        have l2 := hide (show k < ys.length by have := HY.out; omega)
        obtain ⟨b1, o1, rfl, hcx⟩ := rd_int (rx.mono hol) l1.out
        obtain ⟨b2, o2, rfl, hcy⟩ := rd_int (ry.mono hol) l2.out
        have hki : (0 : Int) ≤ (k : Int) := by omega
        have hki2 : (k : Int) < (n : Int) := by omega
        have hki3 : (k : Int) + 1 ≤ 9223372036854775807 := by have := HN.out; omega
        have ST := hide (fun e => take_stepI H.out l1.out l2.out e)
        have NO := hide (show xs.getD k 0 ≠ ys.getD k 0 → xs ≠ ys from fun h e => h (by rw [e]))
        clear l1 l2
        revert hcx hcy ST NO
        generalize xs.getD k 0 = x
        generalize ys.getD k 0 = y
        intro hcx hcy ST NO
        by_cases hxy : x = y
        · subst hxy
          have ST1 := hide (ST.out rfl)
          clear ST NO
          go_wp2_with fail
          go_quiet (fail)
          go_wp2
          go_roundw
          case rel => exact ⟨k + 1, by omega, by go_num, ST1.out, hol.drewN _⟩
          case measure => simp [intOf]; omega
        · have hd : (x != y) = true := by rw [bne_iff_ne]; exact hxy
          have hd2 : (x == y) = false := by rw [beq_eq_false_iff_ne]; exact hxy
          have hr : Hid (decide (xs = ys) = false) := by
            show decide _ = false
            rw [decide_eq_false_iff_not]
            exact NO.out hxy
          go_wp2_with fail
          go_quiet (fail)
          go_wp2
          go_ret
          rw [hr.out]
          exact ⟨rfl, hol.drewN _⟩
      · have hr : Hid (decide (xs = ys) = true) := by
          show decide _ = true
          rw [decide_eq_true_iff]
          have := H.out
          have h1 := HX.out
          have h2 := HY.out
          rwa [List.take_of_length_le (by omega), List.take_of_length_le (by omega)] at this
        go_wp2
        go_ret
        rw [hr.out]
        exact ⟨rfl, hol⟩
  · have hd : ((n : Int) == (m : Int)) = false := by rw [beq_eq_false_iff_ne]; omega
    have hd2 : ((n : Int) != (m : Int)) = true := by rw [bne_iff_ne]; omega
    have hr : Hid (decide (xs = ys) = false) := by
      show decide _ = false
      rw [decide_eq_false_iff_not]
      intro h
      subst h
      have h1 := HX.out
      have h2 := HY.out
      omega
    go_enter Try.func12, Try.ntmps12
    go_wp2
    go_ret
    rw [hr.out]
    exact ⟨rfl, Old.refl _⟩

set_option maxHeartbeats 1000000 in
theorem refBin11_any {lo hi mo : Int} {a : Option Addr} {n : Nat} {es : List Int} (cap : Nat) (x : Int) (w : World) (F : Fit w lo hi mo a n es) :
    Calls Try.prog 10 #[pv lo hi mo a n cap, .int .i64 x] w fun e w' => e = .returned (.int .i64 ((binX lo hi es x : Nat) : Int)) ∧ Old w w' := by
  have B0 := hide (Bx.start cap F)
  have HL := hide (And.intro F.len F.small)
  have C := hide (fun wr : World => refClamp10_any (lo := lo) (hi := hi) (mo := mo) (a := a) (n := n) cap x wr)
  unfold binX
  unfold pv at C ⊢
  clear F
  revert C
  generalize clampZ lo hi x = c
  intro C
  go_enter Try.func10, Try.ntmps10
  go_wp2_with fail
  go_loopw [5] (fun vi wr => ∃ k : Nat, vi = .int .i64 (k : Int) ∧ k ≤ n ∧ Hid (∀ j, j < k → es.getD j 0 ≤ c) ∧ Hid (Bx w w.heap.size lo hi mo a n cap es wr)) (fun vi _ => n - (intOf vi).toNat)
  case atStart => exact ⟨0, rfl, Nat.zero_le _, by intro j hj; omega, B0⟩
  case round =>
    clear B0
    obtain ⟨k, rfl, hk, BL, R⟩ := hrel
    have ne : Nonempty (After wr) := ⟨⟨_, Old.refl _⟩⟩
    have a0 : ∀ y : After wr, y.to.cell? ⟨w.heap.size, 0, none⟩ = some (.int .i64 lo) := fun y => (R.out.mono y.old).c0
    have a1 : ∀ y : After wr, y.to.cell? ⟨w.heap.size, 1, none⟩ = some (.int .i64 hi) := fun y => (R.out.mono y.old).c1
    have a2 : ∀ y : After wr, y.to.cell? ⟨w.heap.size, 2, none⟩ = some (.int .i64 mo) := fun y => (R.out.mono y.old).c2
    have a3 : ∀ y : After wr, y.to.cell? ⟨w.heap.size, 3, none⟩ = some (.slice a n cap) := fun y => (R.out.mono y.old).c3
    by_cases hl : k < n
    · have t1 : decide (k < n) = true := by simpa using hl
      have t1' : decide ((k : Int) < (n : Int)) = true := by simp; omega
      obtain ⟨b, off, rfl, ca0⟩ := rd_int R.out.fit.rd (i := k) (by rw [HL.out.1]; exact hl)
      have ca : ∀ y : After wr, y.to.cell? ⟨b, off + k, none⟩ = some (.int .i64 (es.getD k 0)) := fun y => y.cell ca0
      have q0 : (0 : Int) ≤ k := by omega
      have q1 : (k : Int) < n := by omega
      have NX := hide (show es.getD k 0 ≤ c → ∀ j, j < k + 1 → es.getD j 0 ≤ c from fun h j hj => by
        rcases Nat.lt_or_ge j k with h' | h'
        · exact BL.out j h'
        · obtain rfl : j = k := by omega
          exact h)
      have EN := hide (show ¬ es.getD k 0 ≤ c → k = binN es c from fun h => binN_eq (by rw [HL.out.1]; omega) BL.out (fun _ => h))
      clear ca0 BL
      revert ca NX EN
      generalize es.getD k 0 = e
      intro ca NX EN
      by_cases hec : e ≤ c
      · have t2 : decide (e ≤ c) = true := by simpa using hec
        go_wp2_with fail
        refine wp_region_calm (by kernel_rfl) (by kernel_rfl) ?_
        repeat (go_big_quiet_step (first | with_reducible exact calm_of (C.out _)))
        refine wpQuiet_nil ?_
        rintro _ ⟨⟨w3, o3⟩, rfl⟩
        have q2 : (k : Int) + 1 ≤ 9223372036854775807 := by have := HL.out.2; omega
        go_wp2
        go_roundw
        case rel => exact ⟨k + 1, by go_num, by omega, NX.out hec, R.out.mono o3⟩
        case measure => simp [intOf]; omega
      · have t2 : decide (e ≤ c) = false := by simpa using hec
        have E := hide (EN.out hec)
        go_wp2_with fail
        refine wp_region_calm (by kernel_rfl) (by kernel_rfl) ?_
        repeat (go_big_quiet_step (first | with_reducible exact calm_of (C.out _)))
        refine wpQuiet_nil ?_
        rintro _ ⟨⟨w3, o3⟩, rfl⟩
        go_wp2
        go_ret
        exact ⟨by rw [← E.out]; rfl, R.out.old.trans o3⟩
    · have t1 : decide (k < n) = false := by simpa using hl
      have t1' : decide ((k : Int) < (n : Int)) = false := by simp; omega
      have E := hide (binN_eq (es := es) (c := c) (k := k) (by rw [HL.out.1]; omega) BL.out (fun h => by rw [HL.out.1] at h; omega))
      go_wp2_with fail
      refine wp_region_calm (by kernel_rfl) (by kernel_rfl) ?_
      repeat (go_big_quiet_step (first | with_reducible exact calm_of (C.out _)))
      refine wpQuiet_nil ?_
      rintro _ ⟨⟨w3, o3⟩, rfl⟩
      go_wp2
      go_ret
      exact ⟨by rw [← E.out]; rfl, R.out.old.trans o3⟩
end Go.Proofs.Ytkhhjdbmkoggeaa
