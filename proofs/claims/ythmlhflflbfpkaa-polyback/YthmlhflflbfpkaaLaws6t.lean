/-
  The walk of PolyThrough: the polynomial through any points, if layer 6's calls are what they owe.
-/
import Derived.Test.YthmlhflflbfpkaaLaws6
namespace Go.Proofs.Ythmlhflflbfpkaa
open Go.RowKit M Pm
set_option linter.unusedVariables false

set_option maxHeartbeats 4000000 in
theorem walkK_PolyThrough (K : PolyK) (v0 v1 : Value) (w : World) (w0 : IsPts 8796093021952 w v0) (w1 : IsInt .u64 v1) :
    Calls Try.prog 5 #[v0, v1] w fun e w' => e = .returned (.bool true) ∧ Old w w' := by
  obtain ⟨a, len, cap, ps, rfl, hl, hb, rd, hM, hcap⟩ := w0
  obtain ⟨x, hx, rfl⟩ := isU64 w1
  have KK := hide K
  have C1 := hide (some_pts hl hb hcap rd)
  clear w1 K rd hl hb
  go_enter Try.func5, Try.ntmps5
  go_wp2_with fail
  refine C1.out.mono ?_
  rintro e w' ⟨qs, m, rfl, N, hm, hmn, rfl⟩
  clear C1
  go_wp2_with fail
  refine (KK.out.through qs m _ _ _ N (by omega)).mono ?_
  rintro e w1 ⟨o1, s, r, k, cr, rfl, hcr, hk0, hs⟩
  have N1 := N.mono o1
  go_wp2_with fail
  refine (refPoints_any qs m _ _ _ N1.1 (by omega) N1.2.2.2).mono ?_
  rintro e w2 ⟨rfl, o2⟩
  have N2 := N1.mono o2
  have O2 := o1.trans o2
  clear N N1 o1
  by_cases he : errOf qs = 0
  · obtain ⟨sl, sk, slt, sti, sev, srd⟩ := hs he
    have S := hide (sound_of he)
    have m64 := S.out.le
    rw [N2.1] at m64
    have R2 := srd.mono o2
    have lt64 : Hid (∀ y ∈ s, y < 18446744073709551616) := fun y hy => by have := slt y hy; omega
    have TR : Hid (trimN s = s) := trimN_self (by omega) slt sti
    have EV := hide (through_ev N2.1 S.out (by omega) sev x)
    have SE := hide sev
    have SL := hide sl
    clear hs hk0 slt sti sev srd o2 sl
    rw [he]
    have h1 : decide ((m : Int) < (k : Int)) = false := decide_eq_false (by omega)
    go_wp2_with fail
    refine (refTrim_any s k _ _ _ SL.out (by omega) lt64.out R2).mono ?_
    rintro e w3 ⟨v, rfl, ow, o3⟩
    rw [TR.out] at ow
    obtain ⟨at3, ct3, rfl, RT3⟩ := trim_same SL.out ow
    have N3 := N2.mono o3
    have R3 := R2.mono o3
    have O3 := O2.trans o3
    clear N2 R2 O2 o3 ow
    go_wp2_with fail
    refine (R1.Same_any k k s s _ _ _ _ _ (by omega) SL.out SL.out RT3 R3).mono ?_
    rintro e w4 ⟨rfl, o4⟩
    rw [decide_eq_true rfl]
    have N4 := N3.mono o4
    have R4 := R3.mono o4
    have O4 := O3.trans o4
    clear N3 R3 O3 o4 RT3
    go_wp2_with fail
    go_loopw [8] (fun vi wr => ∃ i : Nat, i ≤ m ∧ vi = .int .i64 (i : Nat) ∧ Old w4 wr) (fun vi _ => (m - intOf vi).toNat)
    case atStart => exact ⟨0, by omega, rfl, Old.refl _⟩
    case round =>
      obtain ⟨i, hi, rfl, hol⟩ := hrel
      have N5 := N4.mono hol
      have R5 := R4.mono hol
      by_cases him : i = m
      · subst him
        have hd : decide ((i : Int) < i) = false := decide_eq_false (by omega)
        go_wp2_with fail
        refine (awake6 KK.out _).mono ?_
        rintro e w6 ⟨rfl, o6⟩
        have N6 := N5.mono o6
        have R6 := R5.mono o6
        have O6 := (O4.trans hol).trans o6
        clear N5 R5 N4 R4
        go_wp2_with fail
        refine (refAt_any s k x _ _ _ SL.out (by omega) lt64.out hx R6).mono ?_
        rintro e w7 ⟨rfl, rfl⟩
        rw [EV.out]
        go_wp2_with fail
        refine (refValue_any qs i x _ _ _ N6.1 S.out hx N6.2.2.2).mono ?_
        rintro e w8 ⟨rfl, o8⟩
        go_wp2
        go_ret
        exact ⟨by simp, O6.trans o8⟩
      · have hil : i < m := by omega
        obtain ⟨b, off, z, v, rfl, Hp, hc1, hc2⟩ := N5.2.2.2.at (i := i) (by rw [N5.1]; exact hil)
        have hii : (0 : Int) ≤ i := by omega
        have hii2 : (i : Int) < m := by omega
        have AT := hide (at_of Hp.out)
        have IR := S.out.inr i (by rw [N5.1]; exact hil)
        rw [AT.out.1, AT.out.2] at IR
        obtain ⟨zi, rfl⟩ : ∃ zi : Nat, z = zi := ⟨z.toNat, by omega⟩
        obtain ⟨i1, i2, i3⟩ := IR
        have EE : evN s zi = v := by
          have := SE.out i hil
          unfold ptX ptY at this
          rw [AT.out.1, AT.out.2] at this
          unfold evN
          rw [show F zi = F ((zi : Int)).toNat from rfl, this, F_val, Nat.mod_eq_of_lt i3]
        have hne : ((evN s zi : Int) != (v : Int)) = false := by rw [EE]; simp
        have CA := hide (refAt_any s k zi r cr wr SL.out (by omega) lt64.out (by omega) R5)
        have CB : Hid (∀ n, Calls Try.prog 12 #[.slice r k cr, .int .u64 (zi : Nat)] (wr.drewN n) fun e w' => e = .returned (.int .u64 (evN s zi : Nat)) ∧ w' = wr.drewN n) := fun n =>
          refAt_any s k zi r cr (wr.drewN n) SL.out (by omega) lt64.out (by omega) (R5.mono ((Old.refl wr).drewN n))
        clear R5 EE CA
        go_wp2_with fail
        go_quiet (exact Calls.quiet_of_same (CB.out _))
        go_wp2
        go_roundw
        case rel => exact ⟨i + 1, by omega, by go_num, hol.drewN _⟩
        case measure => simp [intOf]; omega
  · obtain rfl := hk0 he
    have hd : (((errOf qs : Nat) : Int) != 0) = true := by rw [bne_iff_ne]; omega
    clear hs hk0
    go_wp2_with fail
    refine (awake6 KK.out _).mono ?_
    rintro e w3 ⟨rfl, o3⟩
    go_wp2
    go_ret
    exact ⟨by simp, O2.trans o3⟩
end Go.Proofs.Ythmlhflflbfpkaa
