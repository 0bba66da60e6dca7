/-
  Layer 17's statement MaskBegins, if the layer's calls are what they owe.
-/
import Derived.Test.YtjbpnhibgafdmaaDoorLaws17b
namespace Go.Proofs.YtjbpnhibgafdmaaDoor
open Go.RowKit Cha M Vec Sl Mk
set_option linter.unusedVariables false

theorem ownV_take (s : List Nat) (n m : Nat) (h : n ≤ m) : (ownV s m).take n = ownV s n := by
  unfold ownV svec
  rw [← List.map_take, List.take_range, Nat.min_eq_left h]
  apply List.map_congr_left
  intro i hi
  have hi' := List.mem_range.1 hi
  rw [le_sbytes _ _ _ _ (by omega), le_sbytes _ _ _ _ (by omega)]
theorem take_nums (k : IntKind) (xs : List Nat) (n : Nat) : (nums k xs).take n = nums k (xs.take n) := by simp [nums, List.map_take]
theorem Rd.take {w : World} {a : Option Addr} {vs : List Value} (h : Rd w a vs) (n : Nat) : Rd w a (vs.take n) := by
  intro i v hv
  rw [List.getElem?_take] at hv
  split at hv
  · exact h i v hv
  · cases hv

set_option maxRecDepth 100000 in
set_option maxHeartbeats 8000000 in
theorem walkK_MaskBegins (K : MaskK) (v0 v1 v2 v3 v4 : Value) (w : World) (w0 : IsArr .u8 256 32 v0) (w1 : IsInt .u64 v1) (w2 : IsInt .u64 v2) (w3 : IsInt .u8 v3) (w4 : IsInt .u8 v4) (qt : QTab w) :
    Calls Tryd.prog 7 #[v0, v1, v2, v3, v4] w fun e w' => e = .returned (.bool true) ∧ Old w w' := by
  obtain ⟨sd, rfl, hl, hb⟩ := w0
  obtain ⟨a, ha, rfl⟩ := mk64 w1
  obtain ⟨b, hb', rfl⟩ := mk64 w2
  obtain ⟨n, hn, rfl⟩ := mk8 w3
  obtain ⟨m, hm, rfl⟩ := mk8 w4
  have HQ := hide qt
  have KK := hide K
  have P1 : Hid (∀ w, Calls Tryd.prog 19 #[.int .u64 37, .int .u64 a] w fun e w' => e = .returned (.int .u64 (powP 37 a : Nat)) ∧ w' = w) := fun w => R1.Pow_any 37 a (by omega) ha w
  have P2 : Hid (∀ w, Calls Tryd.prog 19 #[.int .u64 37, .int .u64 b] w fun e w' => e = .returned (.int .u64 (powP 37 b : Nat)) ∧ w' = w) := fun w => R1.Pow_any 37 b (by omega) hb' w
  have HI : Hid ((Tryd.prog.info? 22).map (·.size) = some (nums .u8 sd).length) := info_k' hl
  have S0 := hide (KB.start w sd 22)
  obtain ⟨k, hk, hkl, hkn⟩ : ∃ k, kept ((n : Int) + (m : Int)) 256 = k ∧ n ≤ k ∧ k ≤ 256 := ⟨_, rfl, by unfold kept; omega, by unfold kept; omega⟩
  have C1 := hide (fun (w' : World) (q : QTab w') => K.ownK sd hl hb ((n : Int) + (m : Int)) w' q)
  have C2 := hide (fun (w' : World) (q : QTab w') => K.ownK sd hl hb (n : Int) w' q)
  have kn : kept (n : Int) 256 = n := by unfold kept; omega
  rw [hk] at C1
  rw [kn] at C2
  have VK := hide (ownV_length sd k)
  have VN := hide (ownV_length sd n)
  have TK := hide (ownV_take sd n k hkl)
  have lx : powP 37 a < 18446744073709551616 := Nat.lt_trans (powP_lt _ _) (by decide)
  have ly : powP 37 b < 18446744073709551616 := Nat.lt_trans (powP_lt _ _) (by decide)
  have C3 := hide (fun (w' : World) (q : QTab w') => K.pairK a (powP 37 b) ha ly (n : Int) w' q)
  have C4 := hide (fun (w' : World) (q : QTab w') => K.pairK b (powP 37 a) hb' lx (n : Int) w' q)
  rw [kn] at C3 C4
  have BO : powP (powP 37 a) b = powP (powP 37 b) a := by rw [← powP_mul, ← powP_mul, Nat.mul_comm]
  rw [BO] at C4
  have PL := hide (pairV_length (powP (powP 37 b) a) n)
  generalize pairV (powP (powP 37 b) a) n = ps at *
  generalize powP 37 a = x at *
  generalize powP 37 b = y at *
  generalize ownV sd k = vk at *
  generalize ownV sd n = vn at *
  have HK := hide hkl
  have HK2 := hide hkn
  have n0 : (n : Int) ≤ 255 := by omega
  have m0 : (m : Int) ≤ 255 := by omega
  have t1 : decide ((k : Int) < (n : Int)) = false := decide_eq_false (by omega)
  have nk : (n : Int) ≤ (k : Int) := by omega
  clear K w1 w2 w3 w4 qt hl hb ha hb' hm hk kn lx ly BO hkl hkn
  go_enter Tryd.func7, Tryd.ntmps7
  go_wp2_with fail
  refine (P1.out _).mono ?_
  rintro e w1 ⟨rfl, rfl⟩
  go_wp2_with fail
  refine (P2.out _).mono ?_
  rintro e w1 ⟨rfl, rfl⟩
  clear P1 P2
  go_wp2_with fail
  have S2 : KB w sd (w.alloc (.cells (nums .u8 sd).toArray 22)) := S0.out
  obtain ⟨W0, hW0⟩ : ∃ W, W = w.alloc (.cells (nums .u8 sd).toArray 22) := ⟨_, rfl⟩
  rw [← hW0] at S2
  rw [← hW0]
  clear hW0 S0
  have S3 : KB w sd (W0.drewN 1) := S2.mono ((Old.refl W0).drewN 1)
  refine Ssx.region (Ext := Old) (KB w sd) [29, 30, 31, 32, 33, 34, 35, 14, 15]
    [(29, Ssx.cst (.agg (nums .u8 sd).toArray)), (30, Ssx.cst (.int .i64 ((n : Int) + (m : Int)))), (31, fresh w.heap.size .u32 41 k vk), (32, Ssx.cst (.agg (nums .u8 sd).toArray)), (33, Ssx.cst (.int .u8 (n : Nat))), (34, Ssx.cst (.int .i64 (n : Nat))), (35, fresh w.heap.size .u32 41 n vn), (14, fresh w.heap.size .u32 41 k vk), (15, fresh w.heap.size .u32 41 n vn)]
    [] (by kernel_rfl) (by kernel_rfl) (by kernel_rfl) (by kernel_rfl) (fun _ _ h => by cases h) (by kernel_rfl) (by kernel_rfl) (by kernel_rfl) S3 ?good ?behind
  case good =>
    refine ⟨Ssx.whole Old.refl rfl rfl w.heap.size (nums .u8 sd) (fun _ _ h => h) (fun _ h => h.k) Tryd.underlying22 rfl HI.out (fun _ => rfl), Ssx.mv Old.refl rfl rfl (fun _ _ h => h), ?_, Ssx.whole Old.refl rfl rfl w.heap.size (nums .u8 sd) (fun _ _ h => h) (fun _ h => h.k) Tryd.underlying22 rfl HI.out (fun _ => rfl), Ssx.mv Old.refl rfl rfl (fun _ _ h => h),
      Ssx.val1 Old.refl (x := 33) (.int .u8 (n : Nat)) (by simp [Op.operands]) rfl (fun _ _ h => h) (fun ρ h1 hc w => by
        have ec : IntKind.i64.wrap (n : Int) = n := by rw [IntKind.wrap_i64]; omega
        unfold execOp
        simp [h1, go_sem, Tryd.underlying5, Tryd.underlying3, ec]) (fun _ => rfl), ?_, Ssx.asg Old.refl rfl rfl (fun _ _ h => h), Ssx.asg Old.refl rfl rfl (fun _ _ h => h), trivial⟩
    · refine Ssx.call rfl fun a w' hC hop => ⟨11, #[.agg (nums .u8 sd).toArray, .int .i64 ((n : Int) + (m : Int))], ?_, ?_⟩
      · have h1 : a.eval (.tmp 29) = .agg (nums .u8 sd).toArray := hop 29 (by simp [Op.operands, Call.operands])
        have h2 : a.eval (.tmp 30) = .int .i64 ((n : Int) + (m : Int)) := hop 30 (by simp [Op.operands, Call.operands])
        simp [Act.eval] at h1 h2
        simp [h1, h2, go_sem]
      · exact (C1.out w' (HQ.out.mono hC.old)).mono fun _ _ ⟨g, h0, h1, h2, h3⟩ => ⟨_, h1, hC.mono h3, h3, ⟨g, Nat.le_trans hC.old.size h0, rfl, h2⟩⟩
    · refine Ssx.call rfl fun a w' hC hop => ⟨11, #[.agg (nums .u8 sd).toArray, .int .i64 (n : Nat)], ?_, ?_⟩
      · have h1 : a.eval (.tmp 32) = .agg (nums .u8 sd).toArray := hop 32 (by simp [Op.operands, Call.operands])
        have h2 : a.eval (.tmp 34) = .int .i64 (n : Nat) := hop 34 (by simp [Op.operands, Call.operands])
        simp [Act.eval] at h1 h2
        simp [h1, h2, go_sem]
      · exact (C2.out w' (HQ.out.mono hC.old)).mono fun _ _ ⟨g, h0, h1, h2, h3⟩ => ⟨_, h1, hC.mono h3, h3, ⟨g, Nat.le_trans hC.old.size h0, rfl, h2⟩⟩
  case behind =>
    intro vals w3 hC hv
    have h14 : (fresh w.heap.size .u32 41 k vk).p (vals 14) w3 := hv _ (.tail _ (.tail _ (.tail _ (.tail _ (.tail _ (.tail _ (.tail _ (.head _))))))))
    have h15 : (fresh w.heap.size .u32 41 n vn).p (vals 15) w3 := hv _ (.tail _ (.tail _ (.tail _ (.tail _ (.tail _ (.tail _ (.tail _ (.tail _ (.head _)))))))))
    obtain ⟨g1, -, e1, R1'⟩ := h14
    obtain ⟨g2, -, e2, R2'⟩ := h15
    have O3 := hC.old
    clear hC hv S2 S3 C1 C2
    simp only [Ssa.putAll, List.map_cons, List.map_nil, List.foldl_cons, List.foldl_nil, List.setIfInBounds_toArray, List.set_cons_succ, List.set_cons_zero]
    rw [e1, e2]
    clear e1 e2
    generalize vals 29 = x29
    generalize vals 30 = x30
    generalize vals 31 = x31
    generalize vals 32 = x32
    generalize vals 33 = x33
    generalize vals 34 = x34
    generalize vals 35 = x35
    rename_i Q0 K0 hK
    refine hK _ w3 ?_
    clear hK
    go_wp2_with fail
    refine (awake17 KK.out _ (HQ.out.mono O3)).mono ?_
    rintro e w4 ⟨rfl, o4⟩
    have O4 := O3.trans o4
    have R14 := R1'.mono o4
    have R24 := R2'.mono o4
    clear O3 o4 R1' R2'
    have SM := hide (R1.Cells_any n n vn vn (some ⟨g1, 0, none⟩) (some ⟨g2, 0, none⟩) k n w4 (by have := HK2.out; omega) VN.out VN.out (by rw [← TK.out, ← take_nums]; exact R14.rd.take n) R24.rd)
    rw [decide_eq_true rfl] at SM
    clear R14 R24
    go_wp2_with fail
    refine SM.out.mono ?_
    rintro e w5 ⟨rfl, o5⟩
    have O5 := O4.trans o5
    clear SM O4 o5
    by_cases h1 : agE a y = 0 <;> by_cases h2 : agE b x = 0
    · have D3 := hide (fun (w' : World) (q : QTab w') => MR.yes (C3.out w' q) h1)
      have D4 := hide (fun (w' : World) (q : QTab w') => MR.yes (C4.out w' q) h2)
      clear C3 C4 h1 h2
      generalize agE a y = E1 at *
      generalize agE b x = E2 at *
      go_wp2_with fail
      refine (D3.out _ (HQ.out.mono O5)).mono ?_
      rintro e w6 ⟨g6, -, rfl, R6, o6⟩
      have O6 := O5.trans o6
      go_wp2_with fail
      refine (D4.out _ (HQ.out.mono O6)).mono ?_
      rintro e w7 ⟨g7, -, rfl, R7, o7⟩
      have O7 := O6.trans o7
      have SM2 := hide (R1.Cells_any n n ps ps (some ⟨g6, 0, none⟩) (some ⟨g7, 0, none⟩) n n w7 (by omega) PL.out PL.out (R6.mono o7).rd R7.rd)
      rw [decide_eq_true rfl] at SM2
      go_wp2_with fail
      refine SM2.out.mono ?_
      rintro e w8 ⟨rfl, o8⟩
      go_wp2
      go_ret
      exact ⟨by first | rfl | simp, O7.trans o8⟩
    · have D3 := hide (fun (w' : World) (q : QTab w') => MR.yes (C3.out w' q) h1)
      have D4 := hide (fun (w' : World) (q : QTab w') => MR.no (C4.out w' q) h2)
      have b2 : ((agE b x : Int) != 0) = true := by rw [bne_iff_ne]; omega
      clear C3 C4 h1 h2
      generalize agE a y = E1 at *
      generalize agE b x = E2 at *
      go_wp2_with fail
      refine (D3.out _ (HQ.out.mono O5)).mono ?_
      rintro e w6 ⟨g6, -, rfl, R6, o6⟩
      have O6 := O5.trans o6
      go_wp2_with fail
      refine (D4.out _ (HQ.out.mono O6)).mono ?_
      rintro e w7 ⟨rfl, o7⟩
      have O7 := O6.trans o7
      go_wp2
      go_ret
      exact ⟨by first | rfl | simp, O7⟩
    · have D3 := hide (fun (w' : World) (q : QTab w') => MR.no (C3.out w' q) h1)
      have D4 := hide (fun (w' : World) (q : QTab w') => MR.yes (C4.out w' q) h2)
      have b1 : ((agE a y : Int) != 0) = true := by rw [bne_iff_ne]; omega
      clear C3 C4 h1 h2
      generalize agE a y = E1 at *
      generalize agE b x = E2 at *
      go_wp2_with fail
      refine (D3.out _ (HQ.out.mono O5)).mono ?_
      rintro e w6 ⟨rfl, o6⟩
      have O6 := O5.trans o6
      go_wp2_with fail
      refine (D4.out _ (HQ.out.mono O6)).mono ?_
      rintro e w7 ⟨g7, -, rfl, R7, o7⟩
      have O7 := O6.trans o7
      go_wp2
      go_ret
      exact ⟨by first | rfl | simp, O7⟩
    · have D3 := hide (fun (w' : World) (q : QTab w') => MR.no (C3.out w' q) h1)
      have D4 := hide (fun (w' : World) (q : QTab w') => MR.no (C4.out w' q) h2)
      have b1 : ((agE a y : Int) != 0) = true := by rw [bne_iff_ne]; omega
      have b2 : ((agE b x : Int) != 0) = true := by rw [bne_iff_ne]; omega
      clear C3 C4 h1 h2
      generalize agE a y = E1 at *
      generalize agE b x = E2 at *
      go_wp2_with fail
      refine (D3.out _ (HQ.out.mono O5)).mono ?_
      rintro e w6 ⟨rfl, o6⟩
      have O6 := O5.trans o6
      go_wp2_with fail
      refine (D4.out _ (HQ.out.mono O6)).mono ?_
      rintro e w7 ⟨rfl, o7⟩
      have O7 := O6.trans o7
      go_wp2
      go_ret
      exact ⟨by first | rfl | simp, O7⟩
end Go.Proofs.YtjbpnhibgafdmaaDoor
