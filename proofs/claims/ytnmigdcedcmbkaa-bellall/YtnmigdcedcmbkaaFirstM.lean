/-
  Layer 19's 'first': the place of the mark that comes first.
-/
import Derived.Test.YtnmigdcedcmbkaaMkOwn
namespace Go.Proofs.Ytnmigdcedcmbkaa
open Go.RowKit Bl
set_option linter.unusedVariables false

theorem MkIn.at {w : World} {a : Option Addr} {l : List Mk} (h : MkIn w a l) {i : Nat} (hi : i < l.length) : ∃ b off, a = some ⟨b, off, none⟩ ∧ w.cell? ⟨b, off + i * 2, none⟩ = some (.int .i64 (l.getD i (0, 0)).1) ∧ w.cell? ⟨b, off + i * 2 + 1, none⟩ = some (.int .i64 (l.getD i (0, 0)).2) := by
  obtain ⟨b, off, ha, h1, h2⟩ := h i l[i] (by simp [hi])
  have e : l.getD i (0, 0) = l[i] := by simp [List.getD, hi]
  rw [e]
  exact ⟨b, off, ha, h1, h2⟩

set_option maxHeartbeats 2000000 in
theorem first19_any (l : List Mk) (a : Option Addr) (n cap : Nat) (hl : l.length = n) (hn : n ≤ 1000000) (w : World) (rd : MkIn w a l) :
    Calls Try.prog 11 #[.slice a n cap] w fun e w' => e = .returned (.int .i64 (fstTo l n)) ∧ Old w w' := by
  have HL := hide hl
  have F0 : Hid ((-1 : Int) = fstTo l 0 ∧ Old w w) := ⟨rfl, Old.refl _⟩
  clear hl
  go_enter Try.func11, Try.ntmps11
  go_wp2_with fail
  go_loopw [3, 4] (fun vb vi wr => ∃ i : Nat, ∃ best : Int, i ≤ n ∧ vb = .int .i64 best ∧ vi = .int .i64 (i : Nat) ∧ Hid (best = fstTo l i ∧ Old w wr)) (fun _ vi _ => (n - intOf vi).toNat)
  case atStart => exact ⟨0, -1, by omega, rfl, rfl, F0⟩
  case round =>
    clear F0
    obtain ⟨i, best, hi, rfl, rfl, F⟩ := hrel
    by_cases hin : i = n
    · subst hin
      go_wp2
      go_ret
      exact ⟨by rw [F.out.1]; rfl, F.out.2⟩
    · have hil : i < n := by omega
      have li := hide (show i < l.length by have := HL.out; omega)
      obtain ⟨b, off, rfl, c0, c1⟩ := (rd.mono F.out.2).at li.out
      have q0 : (0 : Int) ≤ i := by omega
      have q1 : (i : Int) < n := by omega
      rcases fstTo_is l i with ⟨rfl, h1⟩ | ⟨j, h1, h2, _⟩
      · have e1 : best = -1 := F.out.1.trans h1
        subst e1
        have F1 : Hid ((0 : Int) = fstTo l (0 + 1) ∧ ∀ k, Old w (wr.drewN k)) := ⟨by
          unfold fstTo
          rw [if_pos (.inl (by rw [h1]; decide))]
          rfl, fun k => F.out.2.drewN k⟩
        clear F h1 li hi hin
        go_wp2_with fail
        go_quiet (fail)
        go_wp2
        go_roundw
        case rel => exact ⟨0 + 1, 0, by omega, rfl, by go_num, F1.out.1, F1.out.2 _⟩
        case measure => simp [intOf]; omega
      · have e1 : best = (j : Int) := F.out.1.trans h2
        subst e1
        obtain ⟨b', off', hab, c2, c3⟩ := (rd.mono F.out.2).at (i := j) (by have := li.out; omega)
        cases hab
        have j0 : (0 : Int) ≤ j := by omega
        have j1 : (j : Int) < n := by omega
        have t0 : decide ((j : Int) < 0) = false := decide_eq_false (by omega)
        have ST : Hid (ltM (l.getD i (0, 0)) (l.getD j (0, 0)) = true → (i : Int) = fstTo l (i + 1)) := fun h => by
          rw [fstTo, if_pos (.inr (by rw [h2]; simpa using h))]
        have NO : Hid (ltM (l.getD i (0, 0)) (l.getD j (0, 0)) = false → (j : Int) = fstTo l (i + 1)) := fun h => by
          rw [fstTo, if_neg, h2]
          rintro (q | q)
          · rw [h2] at q; omega
          · rw [h2] at q
            rw [show (j : Int).toNat = j by omega, h] at q
            cases q
        have OD := hide (fun k => F.out.2.drewN k)
        clear F h1 h2 li hi hin
        revert c0 c1 c2 c3 ST NO
        generalize l.getD i (0, 0) = x
        generalize l.getD j (0, 0) = y
        obtain ⟨x1, x2⟩ := x
        obtain ⟨y1, y2⟩ := y
        intro c0 c1 c2 c3 ST NO
        dsimp only at c0 c1 c2 c3
        by_cases h2 : x2 < y2
        · have F1 := hide (ST.out (by simp [ltM, h2]))
          have d1 : decide (x2 < y2) = true := decide_eq_true h2
          clear ST NO h2
          go_wp2_with fail
          go_quiet (fail)
          go_wp2
          go_roundw
          case rel => exact ⟨i + 1, i, by omega, rfl, by go_num, F1.out, OD.out _⟩
          case measure => simp [intOf]; omega
        · have d1 : decide (x2 < y2) = false := decide_eq_false h2
          by_cases h3 : x2 = y2
          · have d2 : (x2 == y2) = true := by rw [beq_iff_eq]; exact h3
            by_cases h4 : x1 < y1
            · have F1 := hide (ST.out (by simp [ltM, h3, h4]))
              have d3 : decide (x1 < y1) = true := decide_eq_true h4
              clear ST NO h2 h3 h4
              go_wp2_with fail
              go_quiet (fail)
              go_wp2
              go_roundw
              case rel => exact ⟨i + 1, i, by omega, rfl, by go_num, F1.out, OD.out _⟩
              case measure => simp [intOf]; omega
            · have F1 := hide (NO.out (by simp [ltM, h3]; omega))
              have d3 : decide (x1 < y1) = false := decide_eq_false h4
              clear ST NO h2 h3 h4
              go_wp2_with fail
              go_quiet (fail)
              go_wp2
              go_roundw
              case rel => exact ⟨i + 1, j, by omega, rfl, by go_num, F1.out, OD.out _⟩
              case measure => simp [intOf]; omega
          · have d2 : (x2 == y2) = false := by rw [beq_eq_false_iff_ne]; exact h3
            have F1 := hide (NO.out (by simp [ltM, h3]; omega))
            clear ST NO h2 h3
            go_wp2_with fail
            go_quiet (fail)
            go_wp2
            go_roundw
            case rel => exact ⟨i + 1, j, by omega, rfl, by go_num, F1.out, OD.out _⟩
            case measure => simp [intOf]; omega
end Go.Proofs.Ytnmigdcedcmbkaa
