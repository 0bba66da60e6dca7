/-
  The walks of layer 7's statements ShareJoins and ShareFits, if the layer's calls are what they owe.
-/
import Derived.Test.YthfaahngnnfefaaShareC
import Derived.Test.YthfaahngnnfefaaOpenP
import Derived.Test.YthfaahngnnfefaaCalm
namespace Go.Proofs.Ythfaahngnnfefaa
open Go.RowKit M Pm
set_option linter.unusedVariables false

theorem isI64 {v : Value} (h : IsInt .i64 v) : ∃ z : Int, I64 z ∧ v = .int .i64 z := by
  obtain ⟨a, rfl, h⟩ := h
  have := bounds_i64 h
  exact ⟨a, ⟨by omega, by omega⟩, rfl⟩
theorem isU64' {v : Value} (h : IsInt .u64 v) : ∃ n : Nat, n < 18446744073709551616 ∧ v = .int .u64 (n : Int) := by
  obtain ⟨a, rfl, h⟩ := h
  have := bounds_u64 h
  exact ⟨a.toNat, by omega, by congr; omega⟩
theorem isU8' {v : Value} (h : IsInt .u8 v) : ∃ n : Nat, n < 256 ∧ v = .int .u8 (n : Int) := by
  obtain ⟨a, rfl, h⟩ := h
  have := bounds_u8 h
  exact ⟨a.toNat, by omega, by congr; omega⟩
theorem isPtsOf {M : Nat} {w : World} {v : Value} (h : IsPts M w v) : ∃ (a : Option Addr) (n cap : Nat) (ps : List Pt), v = .slice a n cap ∧ PtsOf w a n cap ps ∧ n ≤ M := by
  obtain ⟨a, len, cap, ps, h1, h2, h3, h4, h5, h6⟩ := h
  exact ⟨a, len, cap, ps, h1, ⟨h2, h6, h3, h4⟩, h5⟩
theorem isNumsOf {M : Nat} {w : World} {v : Value} (h : IsNums .u64 18446744073709551616 M w v) : ∃ (a : Option Addr) (n cap : Nat) (l : List Nat), v = .slice a n cap ∧ Nums w a n cap l ∧ n ≤ M := by
  obtain ⟨a, len, cap, l, h1, h2, h3, h4, h5, h6⟩ := h
  exact ⟨a, len, cap, l, h1, ⟨h2, h6, h3, h4⟩, h5⟩

set_option maxHeartbeats 2000000 in
theorem walkK_ShareJoins (K : ShareK) (v0 v1 : Value) (w : World) (w0 : IsInt .i64 v0) (w1 : IsPts 8796093021952 w v1) :
    Calls Try.prog 4 #[v0, v1] w fun e w' => e = .returned (.bool true) ∧ Old w w' := by
  obtain ⟨enough, he, rfl⟩ := isI64 w0
  obtain ⟨a, n, cap, ps, rfl, hp, hM⟩ := isPtsOf w1
  have KK := hide K
  have C1 := hide (some7_any ps n a cap w hp)
  have HE := hide he
  clear w0 w1 K hp he
  go_enter Try.func4, Try.ntmps4
  go_wp2_with fail
  refine C1.out.mono ?_
  rintro e w' ⟨qs, m, rfl, N, hm, hmn, rfl⟩
  clear C1
  have N0 := hide N
  clear N
  go_wp2_with fail
  refine (KK.out.join enough qs m _ _ _ N0.out (by omega) HE.out).mono ?_
  rintro e w1 ⟨rfl, o1⟩
  have N1 := hide (N0.out.mono o1)
  go_wp2_with fail
  refine (refJoin_any enough HE.out qs m _ _ _ N1.out (by omega)).mono ?_
  rintro e w2 ⟨rfl, o2⟩
  have O2 := o1.trans o2
  clear N0 N1 o1 o2
  go_wp2_with fail
  refine (awake7 KK.out _).mono ?_
  rintro e w3 ⟨rfl, o3⟩
  go_wp2
  go_ret
  exact ⟨by simp, O2.trans o3⟩

set_option maxHeartbeats 4000000 in
theorem walkK_ShareFits (K : ShareK) (v0 v1 : Value) (w : World) (w0 : IsInt .i64 v0) (w1 : IsPts 8796093021952 w v1) :
    Calls Try.prog 5 #[v0, v1] w fun e w' => e = .returned (.bool true) ∧ Old w w' := by
  obtain ⟨enough, he, rfl⟩ := isI64 w0
  obtain ⟨a, n, cap, ps, rfl, hp, hM⟩ := isPtsOf w1
  have KK := hide K
  have C1 := hide (some7_any ps n a cap w hp)
  have HE := hide he
  clear w0 w1 K hp he
  go_enter Try.func5, Try.ntmps5
  go_wp2_with fail
  refine C1.out.mono ?_
  rintro e w' ⟨qs, n', rfl, N, hm, hmn, rfl⟩
  clear C1
  have N0 := hide N
  clear N
  go_wp2_with fail
  refine (KK.out.fits enough qs n' _ _ _ N0.out (by omega) HE.out).mono ?_
  rintro e w1 ⟨rfl, o1⟩
  have N1 := hide (N0.out.mono o1)
  go_wp2_with fail
  refine (refJoin_any enough HE.out qs n' _ _ _ N1.out (by omega)).mono ?_
  rintro e w2 ⟨rfl, o2⟩
  have N2 := hide (N1.out.mono o2)
  have O2 := o1.trans o2
  clear N0 N1 o1 o2
  by_cases h0 : joinErr enough qs = 0
  · obtain ⟨h1, h2, S⟩ := join_ok h0
    have HS := hide S
    have hl : qs.length = n' := N2.out.1
    rw [hl] at h2
    have n64 : n' ≤ 64 := by have := S.le; omega
    have hcap := N2.out.2.1
    obtain ⟨m, rfl⟩ : ∃ m : Nat, enough = m := ⟨enough.toNat, by omega⟩
    have FB : fitsB m qs = fits qs m n' := by unfold fitsB; rw [if_pos h0, hl]; rfl
    rw [h0, FB]
    have HL := hide hl
    clear S FB hl
    go_wp2_with fail
    go_loopw [9, 10] (fun vw vi wr => ∃ i : Nat, i ≤ n' ∧ vi = .int .i64 (i : Nat) ∧ vw = .bool (fits qs m i) ∧ Old w2 wr) (fun _ vi _ => (n' - intOf vi).toNat)
    case atStart => exact ⟨0, by omega, rfl, rfl, Old.refl _⟩
    case round =>
      obtain ⟨i, hi, rfl, rfl, hol⟩ := hrel
      by_cases hin : i = n'
      · subst hin
        have hd : decide ((i : Int) < i) = false := decide_eq_false (by omega)
        go_wp2_with fail
        refine (awake7 KK.out _).mono ?_
        rintro e w3 ⟨rfl, o3⟩
        go_wp2
        go_ret
        exact ⟨by simp, (O2.trans hol).trans o3⟩
      · have hil : i < n' := by omega
        by_cases hf : fits qs m i = true
        · rw [hf]
          obtain ⟨b, off, z, v, rfl, Hp, hc1, hc2⟩ := (N2.out.mono hol).2.2.2.at (i := i) (by rw [HL.out]; exact hil)
          have AT := hide (at_of Hp.out)
          have IR := HS.out.inr i (by rw [HL.out]; exact hil)
          rw [AT.out.1, AT.out.2] at IR
          obtain ⟨zi, rfl⟩ : ∃ zi : Nat, z = zi := ⟨z.toNat, by omega⟩
          obtain ⟨j1, j2, j3⟩ := IR
          have hi0 : (0 : Int) ≤ i := by omega
          have hi1 : (i : Int) < n' := by omega
          have hm0 : (0 : Int) ≤ m := by omega
          have hm1 : (m : Int) ≤ cap := by omega
          have g1 : ∀ x : After wr, x.to.cell? ⟨b, off + i * 2, none⟩ = some (.int .i64 (zi : Int)) := fun x => x.cell hc1
          have g2 : ∀ x : After wr, x.to.cell? ⟨b, off + i * 2 + 1, none⟩ = some (.int .u64 (v : Nat)) := fun x => x.cell hc2
          have CV : Hid (∀ x : After wr, Calls Try.prog 16 #[.slice (some ⟨b, off, none⟩) m cap, .int .u64 (zi : Nat)] x.to fun e w' => e = .returned (.int .u64 (lagN (qs.take m) zi m : Nat)) ∧ Old x.to w') := fun x => by
            have N3 := ((N2.out.mono hol).mono x.old).take (k := m) (by omega)
            exact refValue_any (qs.take m) m zi _ cap x.to N3.1 (HS.out.take (by omega) (by rw [HL.out]; omega)) (by omega) N3.2.2.2
          have FS : Hid (fits qs m (i + 1) = (lagN (qs.take m) zi m == v)) := by
            show _ = _
            rw [fits, hf, AT.out.1, AT.out.2]; rfl
          have EQ : Hid ((((lagN (qs.take m) zi m : Nat) : Int) == (v : Int)) = (lagN (qs.take m) zi m == v)) := by
            show _ = _
            rw [Bool.eq_iff_iff, beq_iff_eq, beq_iff_eq]; omega
          clear hc1 hc2 Hp
          go_wp2_with fail
          have ne : Nonempty (After wr) := ⟨⟨wr, Old.refl _⟩⟩
          refine wp_region_calm (by kernel_rfl) (by kernel_rfl) ?_
          repeat (go_big_quiet_step (exact calm_of (CV.out _)))
          refine wpQuiet_nil ?_
          rintro _ ⟨⟨w3, o3⟩, rfl⟩
          clear g1 g2 CV
          go_wp2
          go_roundw
          case rel =>
            refine ⟨i + 1, by omega, by go_num, ?_, hol.trans o3⟩
            rw [FS.out, ← EQ.out]
          case measure => simp [intOf]; omega
        · have hf' : fits qs m i = false := by simpa using hf
          rw [hf']
          have FS : Hid (fits qs m (i + 1) = false) := by show _ = _; rw [fits, hf']; rfl
          go_wp2_with fail
          have ne : Nonempty (After wr) := ⟨⟨wr, Old.refl _⟩⟩
          refine wp_region_calm (by kernel_rfl) (by kernel_rfl) ?_
          repeat (go_big_quiet_step (fail))
          refine wpQuiet_nil ?_
          rintro _ ⟨⟨w3, o3⟩, rfl⟩
          go_wp2
          go_roundw
          case rel => exact ⟨i + 1, by omega, by go_num, by rw [FS.out], hol.trans o3⟩
          case measure => simp [intOf]; omega
  · have d0 : (((joinErr enough qs : Nat) : Int) != 0) = true := by rw [bne_iff_ne]; omega
    have FB : fitsB enough qs = false := by unfold fitsB; rw [if_neg h0]
    rw [FB]
    go_wp2_with fail
    refine (awake7 KK.out _).mono ?_
    rintro e w3 ⟨rfl, o3⟩
    go_wp2
    go_ret
    exact ⟨by simp, O2.trans o3⟩
end Go.Proofs.Ythfaahngnnfefaa
