/-
  The walks of layer 6's statements PolyValues, PolySums, PolyZeros, PolyRoots: each returns true at any arguments if the layer's calls are what they owe.
-/
import Derived.Test.YthmlhflflbfpkaaAwake6
import Derived.Test.YthmlhflflbfpkaaFew
import Derived.Test.YthmlhflflbfpkaaOpenP
namespace Go.Proofs.Ythmlhflflbfpkaa
open Go.RowKit M Pm
set_option linter.unusedVariables false

theorem isU64 {v : Value} (h : IsInt .u64 v) : ∃ n : Nat, n < 18446744073709551616 ∧ v = .int .u64 (n : Int) := by
  obtain ⟨a, rfl, h⟩ := h
  have := bounds_u64 h
  exact ⟨a.toNat, by omega, by congr; omega⟩
theorem few_nums {l : List Nat} {n : Nat} {a : Option Addr} {cap : Nat} {w : World} (hl : l.length = n) (hb : ∀ y ∈ l, y < 18446744073709551616) (hc : n ≤ cap) (rd : Rd w a (nums .u64 l)) :
    Calls Try.prog 9 #[.slice a n cap] w fun e w' => ∃ (l' : List Nat) (m : Nat), e = .returned (.slice a m cap) ∧ Nums w a m cap l' ∧ m ≤ 12 ∧ w' = w :=
  (few_any l n a cap w hl hc rd).mono fun _ _ ⟨l', m, h1, h2, h3, h4, h5, h6, h7⟩ => ⟨l', m, h1, ⟨h3, h5, fun y hy => hb y (by rw [h2] at hy; exact List.mem_of_mem_take hy), h6⟩, h4, h7⟩
theorem some_pts {ps : List Pt} {n : Nat} {a : Option Addr} {cap : Nat} {w : World} (hl : ps.length = n) (hb : ∀ p ∈ ps, -9223372036854775808 ≤ p.1 ∧ p.1 ≤ 9223372036854775807 ∧ p.2 < 18446744073709551616) (hc : n ≤ cap) (rd : Pts w a ps) :
    Calls Try.prog 19 #[.slice a n cap] w fun e w' => ∃ (qs : List Pt) (m : Nat), e = .returned (.slice a m cap) ∧ PtsOf w a m cap qs ∧ (m ≤ 9 ∨ 64 < m) ∧ m ≤ n ∧ w' = w :=
  (some_any ps n a cap w hl hc rd).mono fun _ _ ⟨qs, m, h1, h2, h3, h4, h5, h6, h7, h8⟩ => ⟨qs, m, h1, ⟨h3, h5, fun p hp => hb p (by rcases h2 with rfl | rfl; exact hp; exact List.mem_of_mem_take hp), h7⟩, h4, h6, h8⟩
theorem trim_same {w : World} {s : List Nat} {k : Nat} (hk : s.length = k) {v : Value} {base : Nat} {t : TypeId} (ow : Owns w base t .u64 v s) : ∃ a cap, v = .slice a k cap ∧ Rd w a (nums .u64 s) := by
  obtain ⟨a, cap, h1, _, h3⟩ := ow.rd
  rw [hk] at h1
  exact ⟨a, cap, h1, h3⟩

set_option maxHeartbeats 2000000 in
theorem walkK_PolyValues (K : PolyK) (v0 v1 : Value) (w : World) (w0 : IsNums .u64 18446744073709551616 17592186043904 w v0) (w1 : IsInt .u64 v1) :
    Calls Try.prog 3 #[v0, v1] w fun e w' => e = .returned (.bool true) ∧ Old w w' := by
  obtain ⟨a, len, cap, l, rfl, hl, hb, rd, hM, hcap⟩ := w0
  obtain ⟨x, hx, rfl⟩ := isU64 w1
  have KK := hide K
  have C1 := hide (few_nums hl hb hcap rd)
  clear w1 K rd hl hb
  go_enter Try.func3, Try.ntmps3
  go_wp2_with fail
  refine C1.out.mono ?_
  rintro e w' ⟨l', m, rfl, N, hm, rfl⟩
  clear C1
  go_wp2_with fail
  refine (awake6 KK.out _).mono ?_
  rintro e w1 ⟨rfl, o1⟩
  have N1 := N.mono o1
  go_wp2_with fail
  refine (KK.out.at_ l' m x _ _ _ N1 (by omega) hx).mono ?_
  rintro e w2 ⟨rfl, o2⟩
  have N2 := N1.mono o2
  have O2 := o1.trans o2
  clear N N1 o1 o2
  go_wp2_with fail
  refine (refAt_any l' m x _ _ _ N2.1 (by omega) N2.2.2.1 hx N2.2.2.2).mono ?_
  rintro e w3 ⟨rfl, rfl⟩
  clear N2
  go_wp2
  go_ret
  exact ⟨by simp, O2⟩

set_option maxHeartbeats 4000000 in
theorem walkK_PolySums (K : PolyK) (v0 v1 v2 : Value) (w : World) (w0 : IsNums .u64 18446744073709551616 17592186043904 w v0) (w1 : IsNums .u64 18446744073709551616 17592186043904 w v1) (w2 : IsInt .u64 v2) :
    Calls Try.prog 4 #[v0, v1, v2] w fun e w' => e = .returned (.bool true) ∧ Old w w' := by
  obtain ⟨a, len, cap, l, rfl, hl, hb, rd, hM, hcap⟩ := w0
  obtain ⟨a', len', cap', l', rfl, hl', hb', rd', hM', hcap'⟩ := w1
  obtain ⟨x, hx, rfl⟩ := isU64 w2
  have KK := hide K
  have C1 := hide (few_nums hl hb hcap rd)
  have C2 := hide (few_nums hl' hb' hcap' rd')
  clear w2 K rd hl hb rd' hl' hb'
  go_enter Try.func4, Try.ntmps4
  go_wp2_with fail
  refine C1.out.mono ?_
  rintro e w' ⟨xs, n, rfl, NX, hn, rfl⟩
  go_wp2_with fail
  refine C2.out.mono ?_
  rintro e w' ⟨ys, m, rfl, NY, hm, rfl⟩
  clear C1 C2
  go_wp2_with fail
  refine (KK.out.add xs ys n m _ _ _ _ _ NX NY (by omega) (by omega)).mono ?_
  rintro e w1 ⟨s, rs, ks, cs, rfl, PS, hcs, RS, o1⟩
  have NX1 := NX.mono o1
  have NY1 := NY.mono o1
  clear NX NY
  go_wp2_with fail
  refine (KK.out.mul xs ys n m _ _ _ _ _ NX1 NY1 (by omega) (by omega)).mono ?_
  rintro e w2 ⟨p, rp, kp, cp, rfl, PP, hcp, RP, o2⟩
  have NX2 := NX1.mono o2
  have NY2 := NY1.mono o2
  have RS2 := RS.mono o2
  have O2 := o1.trans o2
  have lks := PS.le
  have lkp := PP.le
  clear NX1 NY1 RS o1 o2
  go_wp2_with fail
  refine (refTrim_any s ks _ _ _ PS.len (by omega) PS.lt64 RS2).mono ?_
  rintro e w3 ⟨v, rfl, ow, o3⟩
  rw [PS.trim (by omega)] at ow
  obtain ⟨at3, ct3, rfl, RT3⟩ := trim_same PS.len ow
  have NX3 := NX2.mono o3
  have NY3 := NY2.mono o3
  have RS3 := RS2.mono o3
  have RP3 := RP.mono o3
  have O3 := O2.trans o3
  clear NX2 NY2 RS2 RP o3 O2 ow
  go_wp2_with fail
  refine (R1.Same_any ks ks s s _ _ _ _ _ (by omega) PS.len PS.len RT3 RS3).mono ?_
  rintro e w4 ⟨rfl, o4⟩
  rw [decide_eq_true rfl]
  have NX4 := NX3.mono o4
  have NY4 := NY3.mono o4
  have RS4 := RS3.mono o4
  have RP4 := RP3.mono o4
  have O4 := O3.trans o4
  clear NX3 NY3 RS3 RP3 o4 O3 RT3
  go_wp2_with fail
  refine (refTrim_any p kp _ _ _ PP.len (by omega) PP.lt64 RP4).mono ?_
  rintro e w5 ⟨v, rfl, ow, o5⟩
  rw [PP.trim (by omega)] at ow
  obtain ⟨at5, ct5, rfl, RT5⟩ := trim_same PP.len ow
  have NX5 := NX4.mono o5
  have NY5 := NY4.mono o5
  have RS5 := RS4.mono o5
  have RP5 := RP4.mono o5
  have O5 := O4.trans o5
  clear NX4 NY4 RS4 RP4 o5 O4 ow
  go_wp2_with fail
  refine (R1.Same_any kp kp p p _ _ _ _ _ (by omega) PP.len PP.len RT5 RP5).mono ?_
  rintro e w6 ⟨rfl, o6⟩
  rw [decide_eq_true rfl]
  have NX6 := NX5.mono o6
  have NY6 := NY5.mono o6
  have RS6 := RS5.mono o6
  have RP6 := RP5.mono o6
  have O6 := O5.trans o6
  clear NX5 NY5 RS5 RP5 o6 O5 RT5
  have h1 : decide ((ks : Int) ≤ (n : Int) + (m : Int)) = true := decide_eq_true (by omega)
  have h2 : decide ((kp : Int) ≤ (n : Int) + (m : Int)) = true := decide_eq_true (by omega)
  go_wp2_with fail
  refine (awake6 KK.out _).mono ?_
  rintro e w7 ⟨rfl, o7⟩
  have NX7 := NX6.mono o7
  have NY7 := NY6.mono o7
  have RS7 := RS6.mono o7
  have RP7 := RP6.mono o7
  have O7 := O6.trans o7
  clear NX6 NY6 RS6 RP6 o7 O6 h1 h2
  have E1 : Hid (evN s x = addP (evN xs x) (evN ys x)) := by
    show _ = _
    rw [PS.at, addP_val, F_evN, F_evN]
  have E2 : Hid (evN p x = mulP (evN xs x) (evN ys x)) := by
    show _ = _
    rw [PP.at, mulP_val, F_evN, F_evN]
  have b1 := evN_lt xs x
  have b2 := evN_lt ys x
  go_wp2_with fail
  refine (refAt_any s ks x _ _ _ PS.len (by omega) PS.lt64 hx RS7).mono ?_
  rintro e w8 ⟨rfl, rfl⟩
  go_wp2_with fail
  refine (refAt_any xs n x _ _ _ NX7.1 (by omega) NX7.2.2.1 hx NX7.2.2.2).mono ?_
  rintro e w8 ⟨rfl, rfl⟩
  go_wp2_with fail
  refine (refAt_any ys m x _ _ _ NY7.1 (by omega) NY7.2.2.1 hx NY7.2.2.2).mono ?_
  rintro e w8 ⟨rfl, rfl⟩
  go_wp2_with fail
  refine (R1.Add_any (evN xs x) (evN ys x) (by omega) (by omega) _).mono ?_
  rintro e w8 ⟨rfl, rfl⟩
  rw [E1.out]
  go_wp2_with fail
  refine (refAt_any p kp x _ _ _ PP.len (by omega) PP.lt64 hx RP7).mono ?_
  rintro e w8 ⟨rfl, rfl⟩
  go_wp2_with fail
  refine (refAt_any xs n x _ _ _ NX7.1 (by omega) NX7.2.2.1 hx NX7.2.2.2).mono ?_
  rintro e w8 ⟨rfl, rfl⟩
  go_wp2_with fail
  refine (refAt_any ys m x _ _ _ NY7.1 (by omega) NY7.2.2.1 hx NY7.2.2.2).mono ?_
  rintro e w8 ⟨rfl, rfl⟩
  go_wp2_with fail
  refine (R1.Mul_any (evN xs x) (evN ys x) (by omega) (by omega) _).mono ?_
  rintro e w8 ⟨rfl, rfl⟩
  rw [E2.out]
  go_wp2
  go_ret
  exact ⟨by simp, O7⟩

set_option maxHeartbeats 2000000 in
theorem walkK_PolyZeros (K : PolyK) (v0 : Value) (w : World) (w0 : IsPts 8796093021952 w v0) :
    Calls Try.prog 6 #[v0] w fun e w' => e = .returned (.bool true) ∧ Old w w' := by
  obtain ⟨a, len, cap, ps, rfl, hl, hb, rd, hM, hcap⟩ := w0
  have KK := hide K
  have C1 := hide (some_pts hl hb hcap rd)
  clear K rd hl hb
  go_enter Try.func6, Try.ntmps6
  go_wp2_with fail
  refine C1.out.mono ?_
  rintro e w' ⟨qs, m, rfl, N, hm, hmn, rfl⟩
  clear C1
  go_wp2_with fail
  refine (KK.out.zero qs m _ _ _ N (by omega)).mono ?_
  rintro e w1 ⟨rfl, o1⟩
  have N1 := N.mono o1
  go_wp2_with fail
  refine (refPoints_any qs m _ _ _ N1.1 (by omega) N1.2.2.2).mono ?_
  rintro e w2 ⟨rfl, o2⟩
  have N2 := N1.mono o2
  have O2 := o1.trans o2
  clear N N1 o1 o2
  by_cases he : errOf qs = 0
  · have HZ : Hid (zeroOf qs m = lagN qs 0 m) := by show _ = _; rw [zeroOf, if_pos he]
    have S := hide (sound_of he)
    rw [he]
    go_wp2_with fail
    refine (awake6 KK.out _).mono ?_
    rintro e w3 ⟨rfl, o3⟩
    have N3 := N2.mono o3
    have O3 := O2.trans o3
    go_wp2_with fail
    refine (refValue_any qs m 0 _ _ _ N3.1 S.out (by omega) N3.2.2.2).mono ?_
    rintro e w4 ⟨rfl, o4⟩
    rw [HZ.out]
    go_wp2
    go_ret
    exact ⟨by simp, O3.trans o4⟩
  · have HZ : Hid (zeroOf qs m = 0) := by show _ = _; rw [zeroOf, if_neg he]
    have hd : (((errOf qs : Nat) : Int) != 0) = true := by rw [bne_iff_ne]; omega
    rw [HZ.out]
    go_wp2_with fail
    refine (awake6 KK.out _).mono ?_
    rintro e w3 ⟨rfl, o3⟩
    go_wp2
    go_ret
    exact ⟨by simp, O2.trans o3⟩

set_option maxHeartbeats 4000000 in
theorem walkK_PolyRoots (K : PolyK) (v0 v1 : Value) (w : World) (w0 : IsNums .u64 18446744073709551616 17592186043904 w v0) (w1 : IsInt .u64 v1) :
    Calls Try.prog 8 #[v0, v1] w fun e w' => e = .returned (.bool true) ∧ Old w w' := by
  obtain ⟨a, len, cap, l, rfl, hl, hb, rd, hM, hcap⟩ := w0
  obtain ⟨x, hx, rfl⟩ := isU64 w1
  have KK := hide K
  have C1 := hide (few_nums hl hb hcap rd)
  clear w1 K rd hl hb
  go_enter Try.func8, Try.ntmps8
  go_wp2_with fail
  refine C1.out.mono ?_
  rintro e w' ⟨xs, n, rfl, NX, hn, rfl⟩
  clear C1
  go_wp2_with fail
  refine (R1.Sub_any 0 x (by omega) hx _).mono ?_
  rintro e w' ⟨rfl, rfl⟩
  have sl := subP_lt 0 x
  have RV : Hid (∀ y, ev ([subP 0 x, 1].map F) y = y - F x) := by
    intro y
    have h0 : F 0 = 0 := rfl
    have h1 : F 1 = 1 := rfl
    simp only [List.map, ev, F_subP, h0, h1]
    grind
  have L1 := hide (nums_new w' 23 [subP 0 x, 1] (by intro y hy; simp at hy; omega))
  have NX1 := NX.mono (Old.of_alloc w' (.cells (nums .u64 [subP 0 x, 1]).toArray 23))
  have O1 := Old.of_alloc w' (.cells (nums .u64 [subP 0 x, 1]).toArray 23)
  revert L1 NX1 O1 RV
  generalize subP 0 x = q at *
  intro RV L1 NX1 O1
  clear NX
  go_wp2_with fail
  refine (KK.out.mul xs [q, 1] n 2 _ _ _ _ _ NX1 L1.out (by omega) (by omega)).mono ?_
  rintro e w2 ⟨p, rp, kp, cp, rfl, PP, hcp, RP, o2⟩
  have NX2 := NX1.mono o2
  have L2 := hide (L1.out.mono o2)
  have O2 := O1.trans o2
  have lkp := PP.le
  clear NX1 L1 O1 o2
  go_wp2_with fail
  refine (awake6 KK.out _).mono ?_
  rintro e w3 ⟨rfl, o3⟩
  have NX3 := NX2.mono o3
  have L3 := hide (L2.out.mono o3)
  have O3 := O2.trans o3
  have RP3 := RP.mono o3
  clear NX2 L2 O2 o3 RP
  have E1 : Hid (evN p x = 0) := by
    show _ = _
    rw [PP.at, RV.out]
    have : ev (xs.map F) (F x) * (F x - F x) = 0 := by grind
    rw [this]; rfl
  have E2 : Hid (evN [q, 1] x = 0) := by
    show _ = _
    unfold evN
    rw [RV.out]
    have : F x - F x = 0 := by grind
    rw [this]; rfl
  go_wp2_with fail
  refine (KK.out.at_ p kp x _ _ _ ⟨PP.len, hcp, PP.lt64, RP3⟩ (by omega) hx).mono ?_
  rintro e w4 ⟨rfl, o4⟩
  rw [E1.out]
  have NX4 := NX3.mono o4
  have L4 := hide (L3.out.mono o4)
  have O4 := O3.trans o4
  have RP4 := RP3.mono o4
  clear NX3 L3 O3 o4 RP3
  go_wp2_with fail
  refine (KK.out.at_ [q, 1] 2 x _ _ _ L4.out (by omega) hx).mono ?_
  rintro e w5 ⟨rfl, o5⟩
  rw [E2.out]
  have NX5 := NX4.mono o5
  have L5 := hide (L4.out.mono o5)
  have O5 := O4.trans o5
  have RP5 := RP4.mono o5
  clear NX4 L4 O4 o5 RP4
  go_wp2_with fail
  refine (KK.out.mul [q, 1] xs 2 n _ _ _ _ _ L5.out NX5 (by omega) (by omega)).mono ?_
  rintro e w6 ⟨p2, rp2, kp2, cp2, rfl, PP2, hcp2, RP2, o6⟩
  obtain rfl := PP2.same PP (by omega) (by omega) (fun y => by grind)
  obtain rfl : kp2 = kp := PP2.len.symm.trans PP.len
  have NX6 := NX5.mono o6
  have L6 := hide (L5.out.mono o6)
  have O6 := O5.trans o6
  have RP6 := RP5.mono o6
  clear NX5 L5 O5 o6 RP5 PP2
  go_wp2_with fail
  refine (R1.Same_any kp2 kp2 p2 p2 _ _ _ _ _ (by omega) PP.len PP.len RP2 RP6).mono ?_
  rintro e w7 ⟨rfl, o7⟩
  rw [decide_eq_true rfl]
  have NX7 := NX6.mono o7
  have L7 := hide (L6.out.mono o7)
  have O7 := O6.trans o7
  clear NX6 L6 O6 o7 RP6 RP2
  go_wp2_with fail
  refine (KK.out.add xs [q, 1] n 2 _ _ _ _ _ NX7 L7.out (by omega) (by omega)).mono ?_
  rintro e w8 ⟨s1, r1, k1, c1, rfl, S1, hc1, R1', o8⟩
  have NX8 := NX7.mono o8
  have L8 := hide (L7.out.mono o8)
  have O8 := O7.trans o8
  clear NX7 L7 O7 o8
  go_wp2_with fail
  refine (KK.out.add [q, 1] xs 2 n _ _ _ _ _ L8.out NX8 (by omega) (by omega)).mono ?_
  rintro e w9 ⟨s2, r2, k2, c2, rfl, S2, hc2, R2', o9⟩
  obtain rfl := S2.same S1 (by omega) (by omega) (fun y => by grind)
  obtain rfl : k2 = k1 := S2.len.symm.trans S1.len
  have R1'' := R1'.mono o9
  have O9 := O8.trans o9
  have lk := S1.le
  clear NX8 L8 O8 o9 R1'
  go_wp2_with fail
  refine (R1.Same_any k2 k2 s2 s2 _ _ _ _ _ (by omega) S1.len S1.len R1'' R2').mono ?_
  rintro e w10 ⟨rfl, o10⟩
  rw [decide_eq_true rfl]
  go_wp2
  go_ret
  exact ⟨rfl, O9.trans o10⟩
end Go.Proofs.Ythmlhflflbfpkaa
