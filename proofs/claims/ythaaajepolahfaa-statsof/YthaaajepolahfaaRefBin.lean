/-
  The document's own Bin, and offertoryref01.Ints: what they answer.
-/
import Derived.Test.YthaaajepolahfaaRefClamp
import Derived.Test.YthaaajepolahfaaBinN
import Derived.Test.YthaaajepolahfaaCalm
namespace Go.Proofs.Ythaaajepolahfaa
open Go.RowKit Pn
set_option linter.unusedVariables false

theorem take_stepI {xs ys : List Int} {k : Nat} (h : xs.take k = ys.take k) (hx : k < xs.length) (hy : k < ys.length) (e : xs.getD k 0 = ys.getD k 0) : xs.take (k + 1) = ys.take (k + 1) := by
  rw [List.take_add_one, List.take_add_one, h]
  congr 1
  simp [List.getD, hx, hy] at e
  simp [hx, hy, e]



set_option maxHeartbeats 1000000 in
theorem refBin11_any {lo hi mo : Int} {a : Option Addr} {n : Nat} {es : List Int} (cap : Nat) (x : Int) (w : World) (F : Fit w lo hi mo a n es) :
    Calls Try.prog 28 #[pv lo hi mo a n cap, .int .i64 x] w fun e w' => e = .returned (.int .i64 ((binX lo hi es x : Nat) : Int)) ∧ Old w w' := by
  have B0 := hide (Bx.start cap F)
  have HL := hide (And.intro F.len F.small)
  have C := hide (fun wr : World => refClamp10_any (lo := lo) (hi := hi) (mo := mo) (a := a) (n := n) cap x wr)
  unfold binX
  unfold pv at C ⊢
  clear F
  revert C
  generalize clampZ lo hi x = c
  intro C
  go_enter Try.func28, Try.ntmps28
  go_wp2_with fail
  go_loopw [5] (fun vi wr => ∃ k : Nat, vi = .int .i64 (k : Int) ∧ k ≤ n ∧ Hid (∀ j, j < k → es.getD j 0 ≤ c) ∧ Hid (Bx w w.heap.size lo hi mo a n cap es wr)) (fun vi _ => n - (intOf vi).toNat)
  case atStart => exact ⟨0, rfl, Nat.zero_le _, by intro j hj; omega, B0⟩
  case round =>
    clear B0
    obtain ⟨k, rfl, hk, BL, R⟩ := hrel
    have ne : Nonempty (After wr) := ⟨⟨_, Old.refl _⟩⟩
    have a0 : ∀ y : After wr, y.to.cell? ⟨w.heap.size, 0, none⟩ = some (.int .i64 lo) := fun y => (R.out.mono y.old).c0
    have a1 : ∀ y : After wr, y.to.cell? ⟨w.heap.size, 1, none⟩ = some (.int .i64 hi) := fun y => (R.out.mono y.old).c1
    have a2 : ∀ y : After wr, y.to.cell? ⟨w.heap.size, 2, none⟩ = some (.int .i64 mo) := fun y => (R.out.mono y.old).c2
    have a3 : ∀ y : After wr, y.to.cell? ⟨w.heap.size, 3, none⟩ = some (.slice a n cap) := fun y => (R.out.mono y.old).c3
    by_cases hl : k < n
    · have t1 : decide (k < n) = true := by simpa using hl
      have t1' : decide ((k : Int) < (n : Int)) = true := by simp; omega
      obtain ⟨b, off, rfl, ca0⟩ := rd_int R.out.fit.rd (i := k) (by rw [HL.out.1]; exact hl)
      have ca : ∀ y : After wr, y.to.cell? ⟨b, off + k, none⟩ = some (.int .i64 (es.getD k 0)) := fun y => y.cell ca0
      have q0 : (0 : Int) ≤ k := by omega
      have q1 : (k : Int) < n := by omega
      have NX := hide (show es.getD k 0 ≤ c → ∀ j, j < k + 1 → es.getD j 0 ≤ c from fun h j hj => by
        rcases Nat.lt_or_ge j k with h' | h'
        · exact BL.out j h'
        · obtain rfl : j = k := by omega
          exact h)
      have EN := hide (show ¬ es.getD k 0 ≤ c → k = binN es c from fun h => binN_eq (by rw [HL.out.1]; omega) BL.out (fun _ => h))
      clear ca0 BL
      revert ca NX EN
      generalize es.getD k 0 = e
      intro ca NX EN
      by_cases hec : e ≤ c
      · have t2 : decide (e ≤ c) = true := by simpa using hec
        go_wp2_with fail
        refine wp_region_calm (by kernel_rfl) (by kernel_rfl) ?_
        repeat (go_big_quiet_step (first | with_reducible exact calm_of (C.out _)))
        refine wpQuiet_nil ?_
        rintro _ ⟨⟨w3, o3⟩, rfl⟩
        have q2 : (k : Int) + 1 ≤ 9223372036854775807 := by have := HL.out.2; omega
        go_wp2
        go_roundw
        case rel => exact ⟨k + 1, by go_num, by omega, NX.out hec, R.out.mono o3⟩
        case measure => simp [intOf]; omega
      · have t2 : decide (e ≤ c) = false := by simpa using hec
        have E := hide (EN.out hec)
        go_wp2_with fail
        refine wp_region_calm (by kernel_rfl) (by kernel_rfl) ?_
        repeat (go_big_quiet_step (first | with_reducible exact calm_of (C.out _)))
        refine wpQuiet_nil ?_
        rintro _ ⟨⟨w3, o3⟩, rfl⟩
        go_wp2
        go_ret
        exact ⟨by rw [← E.out]; rfl, R.out.old.trans o3⟩
    · have t1 : decide (k < n) = false := by simpa using hl
      have t1' : decide ((k : Int) < (n : Int)) = false := by simp; omega
      have E := hide (binN_eq (es := es) (c := c) (k := k) (by rw [HL.out.1]; omega) BL.out (fun h => by rw [HL.out.1] at h; omega))
      go_wp2_with fail
      refine wp_region_calm (by kernel_rfl) (by kernel_rfl) ?_
      repeat (go_big_quiet_step (first | with_reducible exact calm_of (C.out _)))
      refine wpQuiet_nil ?_
      rintro _ ⟨⟨w3, o3⟩, rfl⟩
      go_wp2
      go_ret
      exact ⟨by rw [← E.out]; rfl, R.out.old.trans o3⟩
end Go.Proofs.Ythaaajepolahfaa
