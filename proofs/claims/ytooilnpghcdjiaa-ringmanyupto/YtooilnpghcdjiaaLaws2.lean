/-
  The walks of layer 2's statements: each law returns true at any vectors.
-/
import Derived.Test.YtooilnpghcdjiaaAwake2
import Derived.Test.YtooilnpghcdjiaaOpen
namespace Go.Proofs.Ytooilnpghcdjiaa
open Go.RowKit Vec
set_option linter.unusedVariables false

theorem zip_at {f : Nat → Nat → Nat} {xs ys : List Nat} {k x y z : Nat} (hx : xs[k]? = some x) (hy : ys[k]? = some y) (hz : (List.zipWith f xs ys)[k]? = some z) : z = f x y := by
  rw [List.getElem?_zipWith, hx, hy] at hz
  simpa using hz.symm

set_option maxHeartbeats 2000000 in
theorem walk_RingSums (v0 v1 : Value) (w : World) (h0 : IsNums .u32 4294967296 35184372087808 w v0) (h1 : IsNums .u32 4294967296 35184372087808 w v1) :
    Calls Try.prog 3 #[v0, v1] w fun e w' => e = .returned (.bool true) ∧ Old w w' := by
  obtain ⟨a, n, ca, xs, rfl, hxl, hxb, rx, hn, _⟩ := h0
  obtain ⟨b, m, cb, ys, rfl, hyl, hyb, ry, hm, _⟩ := h1
  by_cases hnm : n = m
  · subst hnm
    have HX := hide hxl
    have HY := hide hyl
    have HXB := hide hxb
    have HYB := hide hyb
    clear hxl hyl hxb hyb
    go_enter Try.func3, Try.ntmps3
    go_wp2_with fail
    refine (Add_ok n xs ys a b ca cb _ (by omega) HX.out HY.out rx ry).mono ?_
    rintro e w1 ⟨g1, rfl, r1, o1⟩
    have O1 := hide o1
    clear o1
    go_wp2_with fail
    refine (Sub_ok n xs ys a b ca cb _ (by omega) HX.out HY.out HYB.out (rx.mono O1.out) (ry.mono O1.out)).mono ?_
    rintro e w2 ⟨g2, rfl, r2, o2⟩
    replace r1 := r1.mono o2
    have O2 := hide <| O1.out.trans o2
    clear o2 O1
    replace rx := rx.mono O2.out
    replace ry := ry.mono O2.out
    go_wp2_with fail
    go_loopw [9] (fun i wr => ∃ k : Nat, k ≤ n ∧ i = .int .i64 k ∧ Old w2 wr) (fun i _ => n - (intOf i).toNat)
    case atStart => exact ⟨0, Nat.zero_le _, rfl, Old.refl _⟩
    case round =>
      obtain ⟨k, hk, rfl, hol⟩ := hrel
      by_cases hlt : k < n
      · obtain ⟨b1, o1, x, rfl, Hx, hcx⟩ := (rx.mono hol).num (i := k) (by have := HX.out; omega)
        obtain ⟨b2, o2, y, rfl, Hy, hcy⟩ := (ry.mono hol).num (i := k) (by have := HY.out; omega)
        obtain ⟨b3, o3, p, e3, Hp, hcp⟩ := (r1.mono hol).num (i := k) (by have := HX.out; have := HY.out; simp; omega)
        obtain ⟨b4, o4, q, e4, Hq, hcq⟩ := (r2.mono hol).num (i := k) (by have := HX.out; have := HY.out; simp; omega)
        obtain ⟨rfl, rfl⟩ : g1 = b3 ∧ 0 = o3 := by simpa using e3
        obtain ⟨rfl, rfl⟩ : g2 = b4 ∧ 0 = o4 := by simpa using e4
        clear e3 e4
        have hxb := HXB.out x (List.mem_of_getElem? Hx.out)
        have hyb := HYB.out y (List.mem_of_getElem? Hy.out)
        have hp := zip_at Hx.out Hy.out Hp.out
        have hq := zip_at Hx.out Hy.out Hq.out
        have hki : (0 : Int) ≤ (k : Int) := by omega
        have hki2 : (k : Int) < (n : Int) := by omega
        have hpb : p < 4294967296 := by rw [hp]; exact add32_lt _ _
        have hqb : q < 4294967296 := by rw [hq]; exact sub32_lt _ _
        have t1 : ((p : Int) != ((x : Int) + (y : Int)) % 4294967296) = false := by
          rw [hp]; simp [add32]
        have t2 : ((q : Int) != ((x : Int) + 4294967296 - (y : Int)) % 4294967296) = false := by
          rw [hq]; simp [sub32]; omega
        clear hp hq
        rw [Nat.zero_add] at hcp hcq
        go_wp2_with fail
        go_quiet (fail)
        go_wp2
        go_roundw
        case rel => exact ⟨k + 1, by omega, by go_num, hol.drewN _⟩
        case measure => simp [intOf]; omega
      · go_wp2_with fail
        refine (awake2 _).mono ?_
        rintro e w3 ⟨rfl, o3⟩
        go_wp2
        go_ret
        exact ⟨rfl, (O2.out.trans hol).trans o3⟩
  · have hd : ((n : Int) == (m : Int)) = false := by rw [beq_eq_false_iff_ne]; omega
    have hd2 : ((n : Int) != (m : Int)) = true := by rw [bne_iff_ne]; omega
    clear hxl hyl hxb hyb rx ry
    go_enter Try.func3, Try.ntmps3
    go_wp2_with fail
    refine (Add_no n m a b ca cb _ hnm).mono ?_
    rintro e w1 ⟨rfl, rfl⟩
    go_wp2_with fail
    refine (Sub_no n m a b ca cb _ hnm).mono ?_
    rintro e w1 ⟨rfl, rfl⟩
    go_wp2_with fail
    refine (awake2 _).mono ?_
    rintro e w3 ⟨rfl, o3⟩
    go_wp2
    go_ret
    exact ⟨rfl, o3⟩

set_option maxHeartbeats 2000000 in
theorem walk_RingBack (v0 v1 : Value) (w : World) (h0 : IsNums .u32 4294967296 35184372087808 w v0) (h1 : IsNums .u32 4294967296 35184372087808 w v1) :
    Calls Try.prog 5 #[v0, v1] w fun e w' => e = .returned (.bool true) ∧ Old w w' := by
  obtain ⟨a, n, ca, xs, rfl, hxl, hxb, rx, hn, _⟩ := h0
  obtain ⟨b, m, cb, ys, rfl, hyl, hyb, ry, hm, _⟩ := h1
  have HX := hide hxl
  have HY := hide hyl
  have HXB := hide hxb
  have HYB := hide hyb
  have HNL := hide (show (negv xs).length = n by rw [negv_length, hxl])
  have H1 := hide (negv_of n xs hxl)
  have H2 := hide (add_negv xs hxb)
  have H3 := hide (show List.zipWith sub32 (List.replicate n 0) (negv xs) = xs by
    rw [negv_of n (negv xs) (by rw [negv_length, hxl]), negv_negv xs hxb])
  clear hxl hyl hxb hyb
  go_enter Try.func5, Try.ntmps5
  go_wp2_with fail
  refine (Neg_any n xs a ca _ (by omega) HX.out HXB.out rx).mono ?_
  rintro e w1 ⟨g1, rfl, r1, o1⟩
  rw [H1.out] at r1
  have O1 := hide o1
  clear o1
  go_wp2_with fail
  refine (Add_ok n xs (negv xs) a _ ca n _ (by omega) HX.out HNL.out (rx.mono O1.out) r1).mono ?_
  rintro e w2 ⟨g2, rfl, r2, o2⟩
  rw [H2.out, HX.out] at r2
  replace r1 := r1.mono o2
  have O2 := hide <| O1.out.trans o2
  clear o2 O1
  go_wp2_with fail
  refine (awake2 _).mono ?_
  rintro e w3 ⟨rfl, o3⟩
  replace r1 := r1.mono o3
  replace r2 := r2.mono o3
  have O3 := hide <| O2.out.trans o3
  clear o3 O2
  go_wp2_with fail
  refine (Neg_any n (negv xs) _ n _ (by omega) HNL.out (negv_lt xs) r1).mono ?_
  rintro e w4 ⟨g4, rfl, r4, o4⟩
  rw [H3.out] at r4
  replace r2 := r2.mono o4
  have O4 := hide <| O3.out.trans o4
  clear o4 O3
  go_wp2_with fail
  refine (R1.Cells_any n n xs xs _ a n ca _ (by omega) HX.out HX.out r4 (rx.mono O4.out)).mono ?_
  rintro e w5 ⟨rfl, o5⟩
  rw [show decide (xs = xs) = true by simp]
  replace r2 := r2.mono o5
  have O5 := hide <| O4.out.trans o5
  clear o5 O4 r4 r1
  go_wp2_with fail
  go_loopw [8] (fun i wr => ∃ k : Nat, k ≤ n ∧ i = .int .i64 k ∧ wr = w5) (fun i _ => n - (intOf i).toNat)
  case atStart => exact ⟨0, Nat.zero_le _, rfl, rfl⟩
  case round =>
    obtain ⟨k, hk, rfl, rfl⟩ := hrel
    by_cases hlt : k < n
    · obtain ⟨b2, o2, z, e2, Hz, hcz⟩ := r2.num (i := k) (by simpa using hlt)
      obtain ⟨rfl, rfl⟩ : g2 = b2 ∧ 0 = o2 := by simpa using e2
      clear e2
      obtain rfl : z = 0 := by
        have := Hz.out
        rw [List.getElem?_replicate, if_pos hlt] at this
        simpa using this.symm
      rw [Nat.zero_add] at hcz
      go_wp2
      go_roundw
      case rel => exact ⟨k + 1, by omega, by go_num, trivial⟩
      case measure => simp [intOf]; omega
    · by_cases hnm : n = m
      · subst hnm
        have H5 := hide (add_subv xs ys (HX.out.trans HY.out.symm) HXB.out HYB.out)
        go_wp2_with fail
        refine (Add_ok n xs ys a b ca cb _ (by omega) HX.out HY.out (rx.mono O5.out) (ry.mono O5.out)).mono ?_
        rintro e w6 ⟨g6, rfl, r6, o6⟩
        have O6 := hide <| O5.out.trans o6
        clear o6 O5
        go_wp2_with fail
        refine (Sub_ok n (List.zipWith add32 xs ys) ys _ b n cb _ (by omega) (by have := HX.out; have := HY.out; simp; omega) HY.out HYB.out r6 (ry.mono O6.out)).mono ?_
        rintro e w7 ⟨g7, rfl, r7, o7⟩
        rw [H5.out] at r7
        have O7 := hide <| O6.out.trans o7
        clear o7 O6
        go_wp2_with fail
        refine (R1.Cells_any n n xs xs _ a n ca _ (by omega) HX.out HX.out r7 (rx.mono O7.out)).mono ?_
        rintro e w8 ⟨rfl, o8⟩
        rw [show decide (xs = xs) = true by simp]
        go_wp2
        go_ret
        exact ⟨rfl, O7.out.trans o8⟩
      · go_wp2_with fail
        refine (Add_no n m a b ca cb _ hnm).mono ?_
        rintro e w6 ⟨rfl, rfl⟩
        by_cases h0 : 0 = m
        · subst h0
          go_wp2_with fail
          refine (Sub_ok 0 [] ys _ b 0 cb _ (by omega) rfl HY.out HYB.out (Rd.nil _) (ry.mono O5.out)).mono ?_
          rintro e w7 ⟨g7, rfl, r7, o7⟩
          go_wp2
          go_ret
          exact ⟨rfl, O5.out.trans o7⟩
        · go_wp2_with fail
          refine (Sub_no 0 m _ b 0 cb _ h0).mono ?_
          rintro e w7 ⟨rfl, rfl⟩
          go_wp2
          go_ret
          exact ⟨rfl, O5.out⟩

theorem rds_three {k : IntKind} {w : World} {al : Option Addr} {a b c : Option Addr} {n m l ca cb cc : Nat} {xs ys zs : List Nat} (h : Rd w al [.slice a n ca, .slice b m cb, .slice c l cc]) (hx : xs.length = n) (hy : ys.length = m) (hz : zs.length = l)
    (rx : Rd w a (nums k xs)) (ry : Rd w b (nums k ys)) (rz : Rd w c (nums k zs)) : Rds k w al [(⟨a, n, ca⟩, xs), (⟨b, m, cb⟩, ys), (⟨c, l, cc⟩, zs)] := by
  refine ⟨h, fun p hp => ?_⟩
  simp at hp
  rcases hp with rfl | rfl | rfl
  · exact ⟨hx, rx⟩
  · exact ⟨hy, ry⟩
  · exact ⟨hz, rz⟩

set_option maxHeartbeats 2000000 in
theorem walk_RingOrder (v0 v1 v2 : Value) (w : World) (h0 : IsNums .u32 4294967296 35184372087808 w v0) (h1 : IsNums .u32 4294967296 35184372087808 w v1) (h2 : IsNums .u32 4294967296 35184372087808 w v2) :
    Calls Try.prog 6 #[v0, v1, v2] w fun e w' => e = .returned (.bool true) ∧ Old w w' := by
  obtain ⟨a, n, ca, xs, rfl, hxl, hxb, rx, hn, _⟩ := h0
  obtain ⟨b, m, cb, ys, rfl, hyl, hyb, ry, hm, _⟩ := h1
  obtain ⟨c, l, cc, zs, rfl, hzl, hzb, rz, hl, _⟩ := h2
  have HX := hide hxl
  have HY := hide hyl
  have HZ := hide hzl
  have HXB := hide hxb
  have HYB := hide hyb
  have HZB := hide hzb
  clear hxl hyl hxb hyb hzl hzb
  by_cases hall : m = n ∧ l = n ∧ n ≤ 2147483647
  · obtain ⟨rfl, rfl, hs⟩ := hall
    have H1 := hide (sumv_turn l xs ys zs HX.out HY.out HZ.out)
    have H2 := hide (sumv_three l xs ys zs HX.out HXB.out)
    go_enter Try.func6, Try.ntmps6
    go_wp2_with fail
    refine (Sum_ok l [(⟨a, l, ca⟩, xs), (⟨b, l, cb⟩, ys), (⟨c, l, cc⟩, zs)] 3 _ 3 _ (by rfl) (by omega) ?_ hs (by simp)).mono ?_
    · exact rds_three (rd_new rfl (by simp)) HX.out HY.out HZ.out (rd_past rx _) (rd_past ry _) (rd_past rz _)
    rintro e w1 ⟨g1, rfl, r1, o1⟩
    have O1 := hide <| (Old.of_alloc _ _).trans o1
    clear o1
    go_wp2_with fail
    refine (Sum_ok l [(⟨c, l, cc⟩, zs), (⟨a, l, ca⟩, xs), (⟨b, l, cb⟩, ys)] 3 _ 3 _ (by rfl) (by omega) ?_ hs (by simp)).mono ?_
    · exact rds_three (rd_new rfl (by simp)) HZ.out HX.out HY.out (rd_past (rz.mono O1.out) _) (rd_past (rx.mono O1.out) _) (rd_past (ry.mono O1.out) _)
    rintro e w2 ⟨g2, rfl, r2, o2⟩
    have o12 := (Old.of_alloc _ _).trans o2
    replace r1 := r1.mono o12
    have O2 := hide <| O1.out.trans o12
    clear o2 O1 o12
    replace r1 : Rd w2 (some ⟨g1, 0, none⟩) (nums .u32 (sumv l [xs, ys, zs])) := r1
    replace r2 : Rd w2 (some ⟨g2, 0, none⟩) (nums .u32 (sumv l [zs, xs, ys])) := r2
    rw [← H1.out] at r2
    have HL := hide (sumv_length l [xs, ys, zs] (by have := HX.out; have := HY.out; have := HZ.out; simp; omega))
    go_wp2_with fail
    refine (Add_ok l xs ys a b ca cb _ (by omega) HX.out HY.out (rx.mono O2.out) (ry.mono O2.out)).mono ?_
    rintro e w3 ⟨g3, rfl, r3, o3⟩
    replace r1 := r1.mono o3
    replace r2 := r2.mono o3
    have O3 := hide <| O2.out.trans o3
    clear o3 O2
    go_wp2_with fail
    refine (Add_ok l (List.zipWith add32 xs ys) zs _ c l cc _ (by omega) (by have := HX.out; have := HY.out; simp; omega) HZ.out r3 (rz.mono O3.out)).mono ?_
    rintro e w4 ⟨g4, rfl, r4, o4⟩
    rw [← H2.out] at r4
    replace r1 := r1.mono o4
    replace r2 := r2.mono o4
    have O4 := hide <| O3.out.trans o4
    clear o4 O3 r3
    obtain ⟨ss, hss⟩ : ∃ ss, ss = sumv l [xs, ys, zs] := ⟨_, rfl⟩
    rw [← hss] at r1 r2 r4
    have HL2 := hide (show ss.length = l by rw [hss]; exact HL.out)
    clear hss
    go_wp2_with fail
    refine (awake2 _).mono ?_
    rintro e w5 ⟨rfl, o5⟩
    replace r1 := r1.mono o5
    replace r2 := r2.mono o5
    replace r4 := r4.mono o5
    have O5 := hide <| O4.out.trans o5
    clear o5 O4
    go_wp2_with fail
    refine (R1.Cells_any l l ss ss _ _ l l _ (by omega) HL2.out HL2.out r1 r2).mono ?_
    rintro e w6 ⟨rfl, o6⟩
    rw [show decide (ss = ss) = true by simp]
    replace r1 := r1.mono o6
    replace r4 := r4.mono o6
    have O6 := hide <| O5.out.trans o6
    clear o6 O5
    go_wp2_with fail
    refine (R1.Cells_any l l ss ss _ _ l l _ (by omega) HL2.out HL2.out r1 r4).mono ?_
    rintro e w7 ⟨rfl, o7⟩
    rw [show decide (ss = ss) = true by simp]
    go_wp2
    go_ret
    exact ⟨rfl, O6.out.trans o7⟩
  · have hbad1 := hide (show ((n : Int) < 0 ∨ 2147483647 < (n : Int) ∨ ¬ ∀ p ∈ [((⟨a, n, ca⟩ : Sl), xs), (⟨b, m, cb⟩, ys), (⟨c, l, cc⟩, zs)], (p.1.len : Int) = (n : Int)) by simp; omega)
    have hbad2 := hide (show ((n : Int) < 0 ∨ 2147483647 < (n : Int) ∨ ¬ ∀ p ∈ [((⟨c, l, cc⟩ : Sl), zs), (⟨a, n, ca⟩, xs), (⟨b, m, cb⟩, ys)], (p.1.len : Int) = (n : Int)) by simp; omega)
    clear hall
    go_enter Try.func6, Try.ntmps6
    go_wp2_with fail
    refine (Sum_no n [(⟨a, n, ca⟩, xs), (⟨b, m, cb⟩, ys), (⟨c, l, cc⟩, zs)] 3 _ 3 _ (by rfl) (by omega) ?_ hbad1.out).mono ?_
    · exact rds_three (rd_new rfl (by simp)) HX.out HY.out HZ.out (rd_past rx _) (rd_past ry _) (rd_past rz _)
    rintro e w1 ⟨rfl, rfl⟩
    go_wp2_with fail
    refine (Sum_no n [(⟨c, l, cc⟩, zs), (⟨a, n, ca⟩, xs), (⟨b, m, cb⟩, ys)] 3 _ 3 _ (by rfl) (by omega) ?_ hbad2.out).mono ?_
    · exact rds_three (rd_new (by simp) (by simp)) HZ.out HX.out HY.out (rd_past (rd_past rz _) _) (rd_past (rd_past rx _) _) (rd_past (rd_past ry _) _)
    rintro e w2 ⟨rfl, rfl⟩
    by_cases hnm : n = m
    · subst hnm
      go_wp2_with fail
      refine (Add_ok n xs ys a b ca cb _ (by omega) HX.out HY.out (rd_past (rd_past rx _) _) (rd_past (rd_past ry _) _)).mono ?_
      rintro e w3 ⟨g3, rfl, r3, o3⟩
      go_wp2_with fail
      refine (awake2 _).mono ?_
      rintro e w4 ⟨rfl, o4⟩
      go_wp2
      go_ret
      exact ⟨rfl, (((Old.of_alloc _ _).alloc _).trans o3).trans o4⟩
    · go_wp2_with fail
      refine (Add_no n m a b ca cb _ hnm).mono ?_
      rintro e w3 ⟨rfl, rfl⟩
      go_wp2_with fail
      refine (awake2 _).mono ?_
      rintro e w4 ⟨rfl, o4⟩
      go_wp2
      go_ret
      exact ⟨rfl, ((Old.of_alloc _ _).alloc _).trans o4⟩

end Go.Proofs.Ytooilnpghcdjiaa
