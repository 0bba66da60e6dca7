/-
  The document's own who and rising (offertoryref14): what they answer.
-/
import Derived.Test.YtepchjpdfmleoaaMgFields
import Derived.Test.YtepchjpdfmleoaaMgPlan
import Derived.Test.YtepchjpdfmleoaaCalm
namespace Go.Proofs.Ytepchjpdfmleoaa
open Go.RowKit Cn Pn Wn
set_option linter.unusedVariables false

theorem refwho15_any (n : Int) (w : World) : Calls Try.prog 21 #[.int .i64 n] w fun e w' => e = .returned (.bool (whoB n)) ∧ w' = w := by
  by_cases h1 : 1 ≤ n
  · have t1 : decide (1 ≤ n) = true := by simpa using h1
    have t1' : decide (n ≥ 1) = true := t1
    have E : Hid (whoB n = decide (n ≤ 64)) := by show _ = _; unfold whoB; rw [t1, Bool.true_and]
    clear h1
    go_enter Try.func21, Try.ntmps21
    go_wp2
    go_ret
    exact ⟨by rw [E.out]; rfl, rfl⟩
  · have t1 : decide (1 ≤ n) = false := by simpa using h1
    have t1' : decide (n ≥ 1) = false := t1
    have E : Hid (whoB n = false) := by show _ = _; unfold whoB; rw [t1, Bool.false_and]
    clear h1
    go_enter Try.func21, Try.ntmps21
    go_wp2
    go_ret
    exact ⟨by rw [E.out]; rfl, rfl⟩

set_option maxRecDepth 100000 in
set_option maxHeartbeats 4000000 in
theorem refrising15_any (a : Option Addr) (n cap : Nat) (l : List Int) (hn : n ≤ 9223372036854775807) (hl : l.length = n) (w : World) (rd : Rd w a (ints l)) :
    Calls Try.prog 22 #[.slice a n cap] w fun e w' => e = .returned (.bool (donB l)) ∧ Old w w' := by
  have HL := hide hl
  have HN := hide hn
  have RD := hide rd
  clear hl hn rd
  go_enter Try.func22, Try.ntmps22
  go_wp2_with fail
  go_loopw [3] (fun vi wr => ∃ i : Nat, i ≤ n ∧ vi = .int .i64 (i : Int) ∧ Hid (donTo l i = true) ∧ Hid (Old w wr)) (fun vi _ => n - (intOf vi).toNat)
  case atStart => exact ⟨0, Nat.zero_le _, rfl, rfl, Old.refl _⟩
  case round =>
    obtain ⟨i, hi, rfl, HT, O⟩ := hrel
    by_cases hlt : i < n
    · have t1 : decide ((i : Int) < (n : Int)) = true := by simp; omega
      have t1' : decide (i < n) = true := by simpa using hlt
      have q0 : (0 : Int) ≤ i := by omega
      have q1 : (i : Int) < n := by omega
      have iw : wrap64 ((i : Int) + 1) = ((i + 1 : Nat) : Int) := by have := HN.out; unfold wrap64; omega
      obtain ⟨b, off, rfl, cx0⟩ := rd_int (RD.out.mono O.out) (i := i) (by rw [HL.out]; exact hlt)
      have cx : ∀ y : After wr, y.to.cell? ⟨b, off + i, none⟩ = some (.int .i64 (l.getD i 0)) := fun y => y.cell cx0
      have NX := hide (donTo_next l i)
      have BAD : Hid (donTo l (i + 1) = false → donB l = false) := fun h => donTo_bad h l.length (by rw [HL.out]; omega)
      obtain ⟨x, hx⟩ : ∃ x, x = l.getD i 0 := ⟨_, rfl⟩
      rw [← hx] at cx NX
      have C := hide (fun y : After wr => (refwho15_any x y.to).mono (R' := fun e w' => e = .returned (.bool (whoB x)) ∧ Old y.to w') (fun _ _ ⟨h1, h2⟩ => ⟨h1, h2 ▸ Old.refl _⟩))
      rw [HT.out, Bool.true_and] at NX
      clear hx cx0
      by_cases hw : whoB x = true
      · rw [hw] at C NX
        rw [Bool.true_and] at NX
        by_cases h0 : i = 0
        · have t2 : decide ((0 : Int) < (i : Int)) = false := decide_eq_false (by omega)
          have t2' : decide ((i : Int) > 0) = false := t2
          have t2'' : decide (0 < i) = false := decide_eq_false (by omega)
          have E : Hid (donTo l (i + 1) = true) := by rw [NX.out, decide_eq_true h0]; rfl
          clear NX BAD hw h0
          have ne : Nonempty (After wr) := ⟨⟨_, Old.refl _⟩⟩
          go_wp2_with fail
          refine wp_region_calm (by kernel_rfl) (by kernel_rfl) ?_
          repeat (go_big_quiet_step (first | with_reducible exact calm_of (C.out _)))
          refine wpQuiet_nil ?_
          rintro _ ⟨⟨w3, o3⟩, rfl⟩
          go_wp2_with fail
          try rw [iw]
          exact ⟨⟨i + 1, by omega, by simp, E, O.out.trans o3⟩, by simp [intOf]; omega⟩
        · have t2 : decide ((0 : Int) < (i : Int)) = true := by simp; omega
          have t2' : decide ((i : Int) > 0) = true := t2
          have t2'' : decide (0 < i) = true := by simp; omega
          obtain ⟨b2, off2, e2, cy0⟩ := rd_int (RD.out.mono O.out) (i := i - 1) (by rw [HL.out]; omega)
          obtain ⟨rfl, rfl⟩ : b = b2 ∧ off = off2 := by simpa using e2
          have cy : ∀ y : After wr, y.to.cell? ⟨b, off + (i - 1), none⟩ = some (.int .i64 (l.getD (i - 1) 0)) := fun y => y.cell cy0
          obtain ⟨y, hy⟩ : ∃ y, y = l.getD (i - 1) 0 := ⟨_, rfl⟩
          rw [← hy] at cy NX
          obtain ⟨j, hj⟩ : ∃ j, j = i - 1 := ⟨_, rfl⟩
          rw [← hj] at cy
          have ej : wrap64 ((i : Int) - 1) = (j : Int) := by have := HN.out; unfold wrap64; omega
          have j0 : (0 : Int) ≤ j := by omega
          have j1 : (j : Int) < n := by omega
          rw [decide_eq_false h0, Bool.false_or] at NX
          clear hy cy0 e2 h0 hj hw
          by_cases hxy : y < x
          · have t3 : decide (x ≤ y) = false := decide_eq_false (by omega)
            have E : Hid (donTo l (i + 1) = true) := by rw [NX.out]; exact decide_eq_true hxy
            clear NX BAD
            have ne : Nonempty (After wr) := ⟨⟨_, Old.refl _⟩⟩
            go_wp2_with fail
            refine wp_region_calm (by kernel_rfl) (by kernel_rfl) ?_
            repeat (go_big_quiet_step (first | with_reducible exact calm_of (C.out _)))
            refine wpQuiet_nil ?_
            rintro _ ⟨⟨w3, o3⟩, rfl⟩
            go_wp2_with fail
            try rw [iw]
            exact ⟨⟨i + 1, by omega, by simp, E, O.out.trans o3⟩, by simp [intOf]; omega⟩
          · have t3 : decide (x ≤ y) = true := decide_eq_true (by omega)
            have E : Hid (donB l = false) := BAD.out (by rw [NX.out]; exact decide_eq_false hxy)
            clear NX BAD
            have ne : Nonempty (After wr) := ⟨⟨_, Old.refl _⟩⟩
            go_wp2_with fail
            refine wp_region_calm (by kernel_rfl) (by kernel_rfl) ?_
            repeat (go_big_quiet_step (first | with_reducible exact calm_of (C.out _)))
            refine wpQuiet_nil ?_
            rintro _ ⟨⟨w3, o3⟩, rfl⟩
            go_wp2
            go_ret
            exact ⟨by rw [E.out]; rfl, O.out.trans o3⟩
      · have hw' : whoB x = false := by simpa using hw
        have E : Hid (donB l = false) := BAD.out (by rw [NX.out, hw', Bool.false_and])
        rw [hw'] at C
        clear NX BAD hw hw'
        have ne : Nonempty (After wr) := ⟨⟨_, Old.refl _⟩⟩
        go_wp2_with fail
        refine wp_region_calm (by kernel_rfl) (by kernel_rfl) ?_
        repeat (go_big_quiet_step (first | with_reducible exact calm_of (C.out _)))
        refine wpQuiet_nil ?_
        rintro _ ⟨⟨w3, o3⟩, rfl⟩
        go_wp2
        go_ret
        exact ⟨by rw [E.out]; rfl, O.out.trans o3⟩
    · obtain rfl : i = n := by omega
      have t1 : decide ((i : Int) < (i : Int)) = false := by simp
      have t1' : decide (i < i) = false := by simp
      have E : Hid (donB l = true) := by show _ = _; unfold donB; rw [HL.out]; exact HT.out
      go_wp2
      go_ret
      exact ⟨by rw [E.out]; rfl, O.out⟩
end Go.Proofs.Ytepchjpdfmleoaa
