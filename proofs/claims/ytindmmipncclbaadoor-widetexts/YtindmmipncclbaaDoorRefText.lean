/-
  The document's numbers of 128 bits (offertoryref09): Text.
-/
import Derived.Test.YtindmmipncclbaaDoorRefWide
import Derived.Test.YtindmmipncclbaaDoorDecN
namespace Go.Proofs.YtindmmipncclbaaDoor
open Go.RowKit Wd
set_option linter.unusedVariables false

/-- One block of digits. -/
structure R1 (w : World) (a : List Nat) (wr : World) : Prop where
  a : Row wr w.heap.size 27 (nums .u32 a)
  old : Old w wr
theorem R1.start (w : World) (a : List Nat) : R1 w a (w.alloc (.cells (nums .u32 a).toArray 27)) := ⟨Row.new _ _ _, Old.of_alloc _ _⟩
theorem R1.set {w : World} {a : List Nat} {wr : World} (h : R1 w a wr) (i z : Nat) : R1 w (a.set i z) (wr.setCell ⟨w.heap.size, i, none⟩ (.int .u32 (z : Int))) :=
  ⟨by rw [← nums_set]; exact h.a.set _ _, h.old.grown (grown_set _ _ _ _) (Nat.le_refl _)⟩
theorem R1.mono {w : World} {a : List Nat} {wr w' : World} (h : R1 w a wr) (o : Old wr w') : R1 w a w' := ⟨h.a.mono o, h.old.trans o⟩

theorem bstr_cons (d : Nat) (l : List Nat) : Ssb.bstr [d] ++ Ssb.bstr l = Ssb.bstr (d :: l) := by
  unfold Ssb.bstr strOfNums
  apply ByteArray.ext
  simp

set_option maxHeartbeats 4000000 in
theorem refText9_any (x : Nat) (hx : x < M) (w : World) :
    Calls Tryd.prog 24 #[bv x] w fun e w' => e = .returned (.string (Ssb.bstr (decL x))) ∧ Old w w' := by
  have K0 := hide (R1.start w (bigL x))
  have HX := hide hx
  have HL : Hid (x < 10 ^ 39) := by show x < 10 ^ 39; unfold M at hx; omega
  have CV : Hid (∀ (b : Nat) (d : Nat) w', w'.cell? ⟨b, 0, none⟩ = some (.int .u8 (d : Int)) → (convert 55 9 (.slice (some ⟨b, 0, none⟩) 1 1)).run Tryd.prog w' = .ok (.string (Ssb.bstr [d])) w') := fun b d w' h =>
    Ssb.run_bstr Tryd.underlying55 Tryd.underlying5 Tryd.underlying9 rfl (fun i v hv => by
      match i, hv with
      | 0, hv => simp [nums] at hv; subst hv; exact ⟨b, 0, rfl, h⟩)
  clear hx
  unfold bv
  go_enter Tryd.func24, Tryd.ntmps24
  go_wp2_with fail
  go_loopw [3] (fun vo wr => ∃ (f y : Nat) (acc : List Nat), Hid (y < 10 ^ f ∧ y < M ∧ decF f y acc = decL x) ∧ Hid (acc.length + f = 39 ∧ 0 < f) ∧ vo = .string (Ssb.bstr acc) ∧ Hid (R1 w (bigL y) wr)) (fun vo _ => (match vo with | .string s => 39 - s.size | _ => 0))
  case atStart => exact ⟨39, x, [], ⟨HL.out, HX.out, rfl⟩, ⟨rfl, by omega⟩, rfl, K0⟩
  case round =>
    clear K0
    obtain ⟨f, y, acc, HY, HF, rfl, R⟩ := hrel
    have T8 : Hid (R1 w (tenSt y 8) wr) := by show R1 _ _ _; rw [tenSt_top]; exact R.out
    clear R
    go_wp2_with fail
    go_loopw [4, 5, 6] (fun vr vs vi wr' => ∃ k : Nat, k ≤ 8 ∧ vi = .int .i64 ((k : Int) - 1) ∧ vr = .int .u32 (restT y k : Nat) ∧ vs = .bool (someT y k) ∧ Hid (R1 w (tenSt y k) wr')) (fun _ _ vi _ => (intOf vi + 1).toNat)
    case atStart => exact ⟨8, by omega, rfl, by rw [restT_top HY.out.2.1]; rfl, by rw [someT_top], T8⟩
    case round =>
      clear T8
      obtain ⟨k, hk, rfl, rfl, rfl, R⟩ := hrel
      match k, hk with
      | 0, _ =>
        have g1 : decide ((0 : Int) ≤ ((0 : Nat) : Int) - 1) = false := by simp
        have RB := hide R.out
        rw [tenSt_all] at RB
        clear R
        have lr := restT_lt y 0
        have SA := hide (someT_all HY.out.2.1)
        have RZ := hide (restT_zero y)
        revert lr SA RZ
        generalize restT y 0 = r
        generalize someT y 0 = sm
        intro lr SA RZ
        have ADD : ∀ w', (Op.stringOp .add (Ssb.bstr [48 + r]) (Ssb.bstr acc)).run Tryd.prog w' = .ok (.string (Ssb.bstr ((48 + r) :: acc))) w' := fun w' => by
          rw [run_string_add_sum w' _ _ (by rw [bstr_size, bstr_size]; have := HF.out.1; simp; omega), bstr_cons]
        have CV2 : (convert 55 9 (.slice (some ⟨wr.heap.size, 0, none⟩) 1 1)).run Tryd.prog (wr.alloc (.cells #[.int .u8 (48 + (r : Int))] 5)) = .ok (.string (Ssb.bstr [48 + r])) (wr.alloc (.cells #[.int .u8 (48 + (r : Int))] 5)) :=
          CV.out _ _ _ ((Row.new wr 5 [.int .u8 (48 + (r : Int))]).cell (i := 0) rfl)
        clear CV
        cases sm with
        | true =>
          have hne : y / 10 ≠ 0 := by simpa using SA.out.symm
          have HN := hide hne
          clear hne SA
          go_wp2
          go_roundw
          case rel =>
            obtain ⟨h1, h2, h3⟩ := HY.out
            have h4 := HF.out
            match f, h1, h3, h4 with
            | 0, _, _, h4 => omega
            | f + 1, h1, h3, h4 =>
              refine ⟨f, y / 10, (48 + r) :: acc, ⟨by rw [Nat.pow_succ] at h1; omega, by omega, ?_⟩, ⟨by rw [List.length_cons]; omega, ?_⟩, rfl, RB.out.mono (Old.of_alloc _ _)⟩
              · rw [← h3, decF_next HN.out, RZ.out]
              · have h5 := HN.out
                rcases Nat.eq_zero_or_pos f with rfl | h
                · simp at h1; omega
                · exact h
          case measure =>
            have h4 := HF.out
            simp only [bstr_size, List.length_cons]
            omega
        | false =>
          have hne : y / 10 = 0 := by simpa using SA.out.symm
          have HN := hide hne
          clear hne SA
          go_wp2
          go_ret
          obtain ⟨h1, h2, h3⟩ := HY.out
          refine ⟨?_, RB.out.old.alloc _⟩
          have h4 := HF.out
          match f, h1, h3, h4 with
          | 0, h1, h3, h4 => omega
          | f + 1, h1, h3, h4 =>
            rw [← h3, decF_stop HN.out, RZ.out]
            rfl
      | k + 1, hk =>
        have e1 : (((k + 1 : Nat) : Int) - 1) = (k : Int) := by omega
        have k0 : (0 : Int) ≤ k := by omega
        have k1 : (k : Int) < 8 := by omega
        have c1 := R.out.a.cell (i := k) (by unfold nums; rw [List.getElem?_map, tenSt_get y (show k < 8 by omega)]; rfl)
        have f1 := R.out.a.free k
        have l1 := digit_lt y k
        have l2 := restT_lt y (k + 1)
        have D := ten_digit y k
        have D1 := hide D.1
        have D2 := hide D.2
        have S3 := hide (tenSt_step y (show k < 8 by omega))
        have S4 := hide (someT_step y (show k < 8 by omega))
        clear D
        revert c1 l1 l2 D1 D2 S4
        generalize digit y k = p
        generalize restT y (k + 1) = r
        generalize someT y (k + 1) = sm
        intro c1 l1 l2 D1 D2 S4
        rw [e1]
        cases sm with
        | true =>
          go_wp2
          go_roundw
          case rel =>
            refine ⟨k, by omega, rfl, by rw [← D2.out]; rfl, by rw [S4.out]; rfl, ?_⟩
            show R1 _ _ _
            rw [← S3.out, ← D1.out]
            exact R.out.set k ((r * 65536 + p) / 10)
          case measure => simp [intOf]
        | false =>
          by_cases hz : 0 < (r * 65536 + p) / 10
          · have d1 : decide ((0 : Int) < ((r : Int) * 65536 + p) / 10) = true := decide_eq_true (by omega)
            have HZ := hide hz
            clear hz
            go_wp2
            go_roundw
            case rel =>
              refine ⟨k, by omega, rfl, by rw [← D2.out]; rfl, by rw [S4.out, ← D1.out, decide_eq_true HZ.out]; rfl, ?_⟩
              show R1 _ _ _
              rw [← S3.out, ← D1.out]
              exact R.out.set k ((r * 65536 + p) / 10)
            case measure => simp [intOf]
          · have d1 : decide ((0 : Int) < ((r : Int) * 65536 + p) / 10) = false := decide_eq_false (by omega)
            have HZ := hide hz
            clear hz
            go_wp2
            go_roundw
            case rel =>
              refine ⟨k, by omega, rfl, by rw [← D2.out]; rfl, by rw [S4.out, ← D1.out, decide_eq_false HZ.out]; rfl, ?_⟩
              show R1 _ _ _
              rw [← S3.out, ← D1.out]
              exact R.out.set k ((r * 65536 + p) / 10)
            case measure => simp [intOf]
end Go.Proofs.YtindmmipncclbaaDoor
