/-
  The walks of layer 7's statements ShareSplits and ShareHides, if the layer's calls are what they owe.
-/
import Derived.Test.YthfaahngnnfefaaLaws7
namespace Go.Proofs.Ythfaahngnnfefaa
open Go.RowKit M Pm
set_option linter.unusedVariables false

theorem getD_of {l : List Nat} {i y : Nat} (h : l[i]? = some y) : l.getD i 0 = y := by rw [List.getD_eq_getElem?_getD, h]; rfl

set_option maxHeartbeats 8000000 in
theorem walkK_ShareSplits (K : ShareK) (v0 v1 v2 v3 : Value) (w : World) (w0 : IsInt .u64 v0) (w1 : IsInt .i64 v1) (w2 : IsInt .i64 v2) (w3 : IsNums .u64 18446744073709551616 17592186043904 w v3) :
    Calls Try.prog 3 #[v0, v1, v2, v3] w fun e w' => e = .returned (.bool true) ∧ Old w w' := by
  obtain ⟨secret, hsec, rfl⟩ := isU64' w0
  obtain ⟨enough, he, rfl⟩ := isI64 w1
  obtain ⟨n, hn, rfl⟩ := isI64 w2
  obtain ⟨a, m, cap, cs, rfl, hN, hM⟩ := isNumsOf w3
  have KK := hide K
  have C1 := hide (K.split secret enough n cs m a cap w hN (by omega) hsec he hn)
  have HN := hide hN
  have HL : Hid (cs.length = m) := hN.1
  have SE : Hid (splitErr secret enough n cs = if n < 1 ∨ 64 < n ∨ enough < 1 ∨ n < enough ∨ (m : Int) ≠ enough - 1 then 1 else if 2305843009213693951 ≤ secret then 4 else numE (anyBig cs m)) := by show _ = _; unfold splitErr; rw [hN.1]
  clear w0 w1 w2 w3 K hN he hn
  by_cases hbad : n < 1 ∨ 64 < n ∨ enough < 1 ∨ n < enough ∨ (m : Int) ≠ enough - 1
  · have E1 : splitErr secret enough n cs = 1 := by rw [SE.out, if_pos hbad]
    rw [E1] at C1
    have hb' : (decide (n < 1) = true) ∨ (decide (n < 1) = false ∧ decide (64 < n) = true) ∨ (decide (n < 1) = false ∧ decide (64 < n) = false ∧ decide (enough < 1) = true) ∨ (decide (n < 1) = false ∧ decide (64 < n) = false ∧ decide (enough < 1) = false ∧ decide (n < enough) = true) ∨
        (decide (n < 1) = false ∧ decide (64 < n) = false ∧ decide (enough < 1) = false ∧ decide (n < enough) = false ∧ ((m : Int) != enough - 1) = true) := by
      simp only [decide_eq_true_eq, decide_eq_false_iff_not, bne_iff_ne]
      omega
    clear hbad SE E1
    rcases hb' with d1 | ⟨d1, d2⟩ | ⟨d1, d2, d3⟩ | ⟨d1, d2, d3, d4⟩ | ⟨d1, d2, d3, d4, d5⟩
    rotate_left 4
    · simp only [decide_eq_false_iff_not] at d1 d2 d3 d4
      obtain ⟨N, rfl⟩ : ∃ N : Nat, n = N := ⟨n.toNat, by omega⟩
      obtain ⟨E, rfl⟩ : ∃ E : Nat, enough = E := ⟨enough.toNat, by omega⟩
      have f1 : decide ((N : Int) < 1) = false := decide_eq_false d1
      have f2 : decide (64 < (N : Int)) = false := decide_eq_false d2
      have f3 : decide ((E : Int) < 1) = false := decide_eq_false d3
      have f4 : decide ((N : Int) < (E : Int)) = false := decide_eq_false d4
      go_enter Try.func3, Try.ntmps3
      go_wp2_with fail
      refine C1.out.mono ?_
      rintro e w1 ⟨o1, r, k, cr, rfl, hkc, hk0, _⟩
      obtain rfl := hk0 (by omega)
      go_wp2_with fail
      refine (awake7 KK.out _).mono ?_
      rintro e w2 ⟨rfl, o2⟩
      go_wp2
      go_ret
      exact ⟨by simp, o1.trans o2⟩
    all_goals
      go_enter Try.func3, Try.ntmps3
      go_wp2_with fail
      refine C1.out.mono ?_
      rintro e w1 ⟨o1, r, k, cr, rfl, hkc, hk0, _⟩
      obtain rfl := hk0 (by omega)
      go_wp2_with fail
      refine (awake7 KK.out _).mono ?_
      rintro e w2 ⟨rfl, o2⟩
      go_wp2
      go_ret
      exact ⟨by simp, o1.trans o2⟩
  · obtain ⟨N, rfl⟩ : ∃ N : Nat, n = N := ⟨n.toNat, by omega⟩
    obtain rfl : enough = ((m + 1 : Nat) : Int) := by omega
    have hN64 : N ≤ 64 := by omega
    have hmN : m + 1 ≤ N := by omega
    have d1 : decide ((N : Int) < 1) = false := decide_eq_false (by omega)
    have d2 : decide (64 < (N : Int)) = false := decide_eq_false (by omega)
    have d3 : decide (((m + 1 : Nat) : Int) < 1) = false := decide_eq_false (by omega)
    have d4 : decide ((N : Int) < ((m + 1 : Nat) : Int)) = false := decide_eq_false (by omega)
    have d5 : ((m : Int) != ((m + 1 : Nat) : Int) - 1) = false := by rw [bne_eq_false_iff_eq]; omega
    have SE2 : Hid (splitErr secret ((m + 1 : Nat) : Int) N cs = if 2305843009213693951 ≤ secret then 4 else numE (anyBig cs m)) := by show _ = _; rw [SE.out, if_neg hbad]
    clear hbad SE
    by_cases hb2 : 2305843009213693951 ≤ secret
    · have E4 : splitErr secret ((m + 1 : Nat) : Int) N cs = 4 := by rw [SE2.out, if_pos hb2]
      rw [E4] at C1
      have d6 : decide ((2305843009213693951 : Int) ≤ (secret : Nat)) = true := decide_eq_true (by omega)
      go_enter Try.func3, Try.ntmps3
      go_wp2_with fail
      refine C1.out.mono ?_
      rintro e w1 ⟨o1, r, k, cr, rfl, hkc, hk0, _⟩
      obtain rfl := hk0 (by omega)
      go_wp2_with fail
      refine (awake7 KK.out _).mono ?_
      rintro e w2 ⟨rfl, o2⟩
      go_wp2
      go_ret
      exact ⟨by simp, o1.trans o2⟩
    · have d6 : decide ((2305843009213693951 : Int) ≤ (secret : Nat)) = false := decide_eq_false (by omega)
      have E5 : splitErr secret ((m + 1 : Nat) : Int) N cs = numE (anyBig cs m) := by rw [SE2.out, if_neg hb2]
      rw [E5] at C1
      have ENC := numE_cases (anyBig cs m)
      clear E5 SE2
      go_enter Try.func3, Try.ntmps3
      go_wp2_with fail
      refine C1.out.mono ?_
      rintro e w1 ⟨o1, r, k, cr, rfl, hkc, hk0, hk1⟩
      have N1 := hide (HN.out.mono o1)
      have K0 := hide hk0
      have K1 := hide hk1
      clear C1 HN hk0 hk1
      go_wp2_with fail
      go_loop [11, 12] (fun vw vi => ∃ i : Nat, i ≤ m ∧ vi = .int .i64 (i : Nat) ∧ vw = .int .i64 (numE (anyBig cs i) : Nat)) (fun _ vi => (m - intOf vi).toNat)
      case atStart => exact ⟨0, by omega, rfl, rfl⟩
      case round =>
        obtain ⟨i, hi, rfl, rfl⟩ := hrel
        by_cases him : i = m
        · subst him
          have dd : decide ((i : Int) < i) = false := decide_eq_false (by omega)
          rcases ENC with ⟨E, B⟩ | ⟨E, B⟩
          · rw [E]
            rw [E] at K1
            obtain ⟨hkn, FP⟩ := K1.out rfl
            obtain rfl : k = N := by omega
            have HF := hide FP
            have hfp := FP.pts
            clear K0 K1 FP
            go_wp2_with fail
            go_loopw [13] (fun vi wr => ∃ j : Nat, j ≤ k ∧ vi = .int .i64 (j : Nat) ∧ Old w1 wr) (fun vi _ => (k - intOf vi).toNat)
            case atStart => exact ⟨0, by omega, rfl, Old.refl _⟩
            case round =>
              obtain ⟨j, hj, rfl, hol⟩ := hrel
              by_cases hjk : j = k
              · subst hjk
                have de : decide ((j : Int) < j) = false := decide_eq_false (by omega)
                go_wp2_with fail
                refine (awake7 KK.out _).mono ?_
                rintro e w3 ⟨rfl, o3⟩
                go_wp2
                go_ret
                exact ⟨by simp, (o1.trans hol).trans o3⟩
              · have hjl : j < k := by omega
                obtain ⟨b, off, rfl, hc1, hc2⟩ := (hfp.mono hol) j _ (ptsTo_get (secret :: cs) hjl)
                have j0 : (0 : Int) ≤ j := by omega
                have j1 : (j : Int) < k := by omega
                have g1 : ∀ x : After wr, x.to.cell? ⟨b, off + j * 2, none⟩ = some (.int .i64 ((j : Int) + 1)) := fun x => (x.cell hc1).trans (by congr 2)
                have g2 : ∀ x : After wr, x.to.cell? ⟨b, off + j * 2 + 1, none⟩ = some (.int .u64 (evN (secret :: cs) (j + 1) : Nat)) := fun x => x.cell hc2
                have CS : Hid (∀ x : After wr, Calls Try.prog 11 #[.int .u64 (secret : Nat), .slice a i cap, .int .i64 ((j : Int) + 1)] x.to fun e w' => e = .returned (.int .u64 (evN (secret :: cs) (j + 1) : Nat)) ∧ Old x.to w') := fun x =>
                  refShare_any secret cs i a cap (j + 1) x.to hsec ((N1.out.mono hol).mono x.old) (by omega) (by omega)
                have t1 : (((j : Int) + 1) != (j : Int) + 1) = false := by simp
                have t2 : (((evN (secret :: cs) (j + 1) : Nat) : Int) != ((evN (secret :: cs) (j + 1) : Nat) : Int)) = false := by simp
                revert g2 CS t2
                generalize evN (secret :: cs) (j + 1) = ee
                intro g2 CS t2
                clear hc1 hc2
                go_wp2_with fail
                have ne : Nonempty (After wr) := ⟨⟨wr, Old.refl _⟩⟩
                refine wp_region_calm (by kernel_rfl) (by kernel_rfl) ?_
                repeat (go_big_quiet_step (exact calm_of (CS.out _)))
                refine wpQuiet_nil ?_
                rintro _ ⟨⟨w3, o3⟩, rfl⟩
                clear g1 g2 CS
                go_wp2
                go_roundw
                case rel => exact ⟨j + 1, by omega, by go_num, hol.trans o3⟩
                case measure => simp [intOf]; omega
          · rw [E]
            rw [E] at K0
            obtain rfl := K0.out (by omega)
            go_wp2_with fail
            refine (awake7 KK.out _).mono ?_
            rintro e w2 ⟨rfl, o2⟩
            go_wp2
            go_ret
            exact ⟨by simp, o1.trans o2⟩
        · have hil : i < m := by omega
          obtain ⟨b, off, y, rfl, Hy, hcy⟩ := N1.out.2.2.2.num (i := i) (by rw [HL.out]; exact hil)
          have i0 : (0 : Int) ≤ i := by omega
          have i1 : (i : Int) < m := by omega
          have AB : Hid (anyBig cs (i + 1) = (anyBig cs i || decide (2305843009213693951 ≤ y))) := by show _ = _; rw [anyBig, getD_of Hy.out]
          by_cases hy : 2305843009213693951 ≤ y
          · have d7 : decide ((2305843009213693951 : Int) ≤ (y : Nat)) = true := decide_eq_true (by omega)
            go_wp2
            go_round
            case rel => exact ⟨i + 1, by omega, by go_num, by rw [AB.out, decide_eq_true hy, Bool.or_true]; rfl⟩
            case measure => simp [intOf]; omega
          · have d7 : decide ((2305843009213693951 : Int) ≤ (y : Nat)) = false := decide_eq_false (by omega)
            go_wp2
            go_round
            case rel => exact ⟨i + 1, by omega, by go_num, by rw [AB.out, decide_eq_false hy, Bool.or_false]⟩
            case measure => simp [intOf]; omega

set_option maxHeartbeats 8000000 in
theorem walkK_ShareHides (K : ShareK) (v0 v1 v2 : Value) (w : World) (w0 : IsInt .u64 v0) (w1 : IsInt .i64 v1) (w2 : IsPts 8796093021952 w v2) :
    Calls Try.prog 7 #[v0, v1, v2] w fun e w' => e = .returned (.bool true) ∧ Old w w' := by
  obtain ⟨secret, hsec, rfl⟩ := isU64' w0
  obtain ⟨enough, he, rfl⟩ := isI64 w1
  obtain ⟨a, n0, cap, ps0, rfl, hp, hM⟩ := isPtsOf w2
  have KK := hide K
  have C0 := hide (some7_any ps0 n0 a cap w hp)
  have C1 : Hid (∀ (ps : List Pt) (n : Nat), PtsOf w a n cap ps → n ≤ 281474976710656 → _) := fun ps n hps hn => K.other secret enough ps n a cap w hps hn hsec he
  clear w0 w1 w2 K hp he
  by_cases hb1 : enough < 1 ∨ 64 < enough
  · have hb' : (decide (enough < 1) = true) ∨ (decide (enough < 1) = false ∧ decide (64 < enough) = true) := by
      simp only [decide_eq_true_eq, decide_eq_false_iff_not]
      omega
    rcases hb' with d1 | ⟨d1, d2⟩
    all_goals
      go_enter Try.func7, Try.ntmps7
      go_wp2_with fail
      refine C0.out.mono ?_
      rintro e w' ⟨ps, n, rfl, N, hm, hmn, rfl⟩
      have N0 := hide N
      have OE : otherErr secret enough ps = 1 := by unfold otherErr; rw [if_pos (by omega)]
      clear N C0
      go_wp2_with fail
      refine (C1.out ps n N0.out (by omega)).mono ?_
      rintro e w1 ⟨o1, cs, r, k, cr, rfl, hkc, hk0, _⟩
      obtain rfl := hk0 (by omega)
      rw [OE]
      go_wp2_with fail
      refine (awake7 KK.out _).mono ?_
      rintro e w2 ⟨rfl, o2⟩
      go_wp2
      go_ret
      exact ⟨by simp, o1.trans o2⟩
  · obtain ⟨E, rfl⟩ : ∃ E : Nat, enough = E := ⟨enough.toNat, by omega⟩
    have E1 : 1 ≤ E := by omega
    have E64 : E ≤ 64 := by omega
    have d1 : decide ((E : Int) < 1) = false := decide_eq_false (by omega)
    have d2 : decide (64 < (E : Int)) = false := decide_eq_false (by omega)
    clear hb1
    go_enter Try.func7, Try.ntmps7
    go_wp2_with fail
    refine C0.out.mono ?_
    rintro e w' ⟨ps, n, rfl, N, hm, hmn, rfl⟩
    have N0 := hide N
    have HL : Hid (ps.length = n) := N.1
    have OE : Hid (otherErr secret E ps = if (n : Int) ≠ (E : Int) - 1 then 1 else if 2305843009213693951 ≤ secret then 4 else if n = 0 then 0 else errOf ps) := by
      show _ = _
      unfold otherErr
      rw [N.1]
      by_cases h : (n : Int) ≠ (E : Int) - 1
      · rw [if_pos (by omega), if_pos h]
      · rw [if_neg (by omega), if_neg h]
    clear N C0
    go_wp2_with fail
    refine (C1.out ps n N0.out (by omega)).mono ?_
    rintro e w1 ⟨o1, cs, r, k, cr, rfl, hkc, hk0, hk1⟩
    have N1 := hide (N0.out.mono o1)
    have K0 := hide hk0
    have K1 := hide hk1
    clear N0 hk0 hk1 C1
    by_cases h3 : (n : Int) ≠ (E : Int) - 1
    · have d3 : ((n : Int) != (E : Int) - 1) = true := by rw [bne_iff_ne]; exact h3
      have O1 : otherErr secret E ps = 1 := by rw [OE.out, if_pos h3]
      obtain rfl := K0.out (by omega)
      rw [O1]
      clear K0 K1 OE
      go_wp2_with fail
      refine (awake7 KK.out _).mono ?_
      rintro e w2 ⟨rfl, o2⟩
      go_wp2
      go_ret
      exact ⟨by simp, o1.trans o2⟩
    · have d3 : ((n : Int) != (E : Int) - 1) = false := by rw [bne_eq_false_iff_eq]; omega
      by_cases h4 : 2305843009213693951 ≤ secret
      · have d4 : decide ((2305843009213693951 : Int) ≤ (secret : Nat)) = true := decide_eq_true (by omega)
        have O1 : otherErr secret E ps = 4 := by rw [OE.out, if_neg h3, if_pos h4]
        obtain rfl := K0.out (by omega)
        rw [O1]
        clear K0 K1 OE
        go_wp2_with fail
        refine (awake7 KK.out _).mono ?_
        rintro e w2 ⟨rfl, o2⟩
        go_wp2
        go_ret
        exact ⟨by simp, o1.trans o2⟩
      · have d4 : decide ((2305843009213693951 : Int) ≤ (secret : Nat)) = false := decide_eq_false (by omega)
        have hEn : E = n + 1 := by omega
        subst hEn
        by_cases h5 : n = 0
        · subst h5
          have O1 : otherErr secret ((0 + 1 : Nat) : Int) ps = 0 := by rw [OE.out, if_neg h3, if_neg h4, if_pos rfl]
          obtain ⟨hk, hl, hb, on, rd, _⟩ := K1.out O1
          obtain rfl : k = 0 := by omega
          rw [O1]
          clear K0 K1 OE
          go_wp2_with fail
          go_loopw [10] (fun vi wr => vi = .int .i64 0 ∧ Old w1 wr) (fun _ _ => 0)
          case atStart => exact ⟨rfl, Old.refl _⟩
          case round =>
            obtain ⟨rfl, hol⟩ := hrel
            go_wp2_with fail
            refine (awake7 KK.out _).mono ?_
            rintro e w2 ⟨rfl, o2⟩
            go_wp2
            go_ret
            exact ⟨by simp, (o1.trans hol).trans o2⟩
        · have d5 : decide ((0 : Int) < (n : Int)) = true := decide_eq_true (by omega)
          have O1 : otherErr secret ((n + 1 : Nat) : Int) ps = errOf ps := by rw [OE.out, if_neg h3, if_neg h4, if_neg h5]
          have CP := hide (refPoints_any ps n a cap w1 HL.out (by omega) N1.out.2.2.2)
          by_cases h6 : errOf ps = 0
          · have S := hide (sound_of h6)
            obtain ⟨hk, hl, hb, on, rd, _⟩ := K1.out (by rw [O1]; exact h6)
            obtain rfl : k = n := by omega
            rw [O1, h6]
            rw [h6] at CP
            have NC : Hid (Nums w1 r k cr cs) := ⟨hl, hkc, fun y hy => by have := hb y hy; omega, rd⟩
            have ON := hide on
            have HB := hide hb
            clear K0 K1 OE on hb rd hl hk O1 h6
            go_wp2_with fail
            refine CP.out.mono ?_
            rintro e w2 ⟨rfl, o2⟩
            have O2 := o1.trans o2
            have N2 := hide (N1.out.mono o2)
            have NC2 := hide (NC.out.mono o2)
            clear CP N1 NC o1 o2
            go_wp2_with fail
            go_loopw [10] (fun vi wr => ∃ i : Nat, i ≤ k ∧ vi = .int .i64 (i : Nat) ∧ Old w2 wr) (fun vi _ => (k - intOf vi).toNat)
            case atStart => exact ⟨0, by omega, rfl, Old.refl _⟩
            case round =>
              obtain ⟨i, hi, rfl, hol⟩ := hrel
              by_cases hik : i = k
              · subst hik
                have de : decide ((i : Int) < i) = false := decide_eq_false (by omega)
                go_wp2_with fail
                refine (awake7 KK.out _).mono ?_
                rintro e w3 ⟨rfl, o3⟩
                go_wp2
                go_ret
                exact ⟨by simp, (O2.trans hol).trans o3⟩
              · have hil : i < k := by omega
                obtain ⟨b, off, z, v, rfl, Hp, hc1, hc2⟩ := (N2.out.mono hol).2.2.2.at (i := i) (by rw [HL.out]; exact hil)
                obtain ⟨b2, off2, y, rfl, Hy, hcy⟩ := (NC2.out.mono hol).2.2.2.num (i := i) (by rw [NC2.out.1]; exact hil)
                have ly := HB.out y (List.mem_of_getElem? Hy.out)
                have AT := hide (at_of Hp.out)
                have IR := S.out.inr i (by rw [HL.out]; exact hil)
                have EV := ON.out.all i (by rw [HL.out]; exact hil)
                rw [AT.out.1, AT.out.2] at IR EV
                obtain ⟨zi, rfl⟩ : ∃ zi : Nat, z = zi := ⟨z.toNat, by omega⟩
                obtain ⟨j1, j2, j3⟩ := IR
                rw [show ((zi : Nat) : Int).toNat = zi from rfl] at EV
                have HEV := hide EV
                have i0 : (0 : Int) ≤ i := by omega
                have i1 : (i : Int) < k := by omega
                have g0 : ∀ x : After wr, x.to.cell? ⟨b2, off2 + i, none⟩ = some (.int .u64 (y : Nat)) := fun x => x.cell hcy
                have g1 : ∀ x : After wr, x.to.cell? ⟨b, off + i * 2, none⟩ = some (.int .i64 (zi : Int)) := fun x => x.cell hc1
                have g2 : ∀ x : After wr, x.to.cell? ⟨b, off + i * 2 + 1, none⟩ = some (.int .u64 (v : Nat)) := fun x => x.cell hc2
                have CS : Hid (∀ x : After wr, Calls Try.prog 11 #[.int .u64 (secret : Nat), .slice (some ⟨b2, off2, none⟩) k cr, .int .i64 (zi : Int)] x.to fun e w' => e = .returned (.int .u64 (v : Nat)) ∧ Old x.to w') := fun x => by
                  have := refShare_any secret cs k (some ⟨b2, off2, none⟩) cr zi x.to hsec ((NC2.out.mono hol).mono x.old) (by omega) (by omega)
                  rw [HEV.out] at this
                  exact this
                have t1 : decide ((2305843009213693951 : Int) ≤ (y : Nat)) = false := decide_eq_false (by omega)
                have t2 : ((v : Int) != (v : Int)) = false := by simp
                clear hc1 hc2 hcy EV Hp
                go_wp2_with fail
                have ne : Nonempty (After wr) := ⟨⟨wr, Old.refl _⟩⟩
                refine wp_region_calm (by kernel_rfl) (by kernel_rfl) ?_
                repeat (go_big_quiet_step (exact calm_of (CS.out _)))
                refine wpQuiet_nil ?_
                rintro _ ⟨⟨w3, o3⟩, rfl⟩
                clear g0 g1 g2 CS
                go_wp2
                go_roundw
                case rel => exact ⟨i + 1, by omega, by go_num, hol.trans o3⟩
                case measure => simp [intOf]; omega
          · obtain rfl := K0.out (by rw [O1]; exact h6)
            rw [O1]
            have d6 : (((errOf ps : Nat) : Int) != 0) = true := by rw [bne_iff_ne]; omega
            clear K0 K1 OE
            go_wp2_with fail
            refine CP.out.mono ?_
            rintro e w2 ⟨rfl, o2⟩
            go_wp2_with fail
            refine (awake7 KK.out _).mono ?_
            rintro e w3 ⟨rfl, o3⟩
            go_wp2
            go_ret
            exact ⟨by simp, (o1.trans o2).trans o3⟩
end Go.Proofs.Ythfaahngnnfefaa
