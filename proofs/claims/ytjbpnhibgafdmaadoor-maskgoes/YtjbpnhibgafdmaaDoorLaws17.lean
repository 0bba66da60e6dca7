/-
  Layer 17's statements MaskPairs and MaskLeft, if the layer's calls are what they owe.
-/
import Derived.Test.YtjbpnhibgafdmaaDoorAwake17
import Derived.Test.YtjbpnhibgafdmaaDoorOpen
namespace Go.Proofs.YtjbpnhibgafdmaaDoor
open Go.RowKit Cha M Vec Sl Mk
set_option linter.unusedVariables false

theorem mk64 {v : Value} (h : IsInt .u64 v) : ∃ n : Nat, n < 18446744073709551616 ∧ v = .int .u64 (n : Int) := by
  obtain ⟨a, rfl, h⟩ := h
  have := bounds_u64 h
  exact ⟨a.toNat, by omega, by congr; omega⟩
theorem mk8 {v : Value} (h : IsInt .u8 v) : ∃ n : Nat, n < 256 ∧ v = .int .u8 (n : Int) := by
  obtain ⟨a, rfl, h⟩ := h
  have := bounds_u8 h
  exact ⟨a.toNat, by omega, by congr; omega⟩
theorem mkI {v : Value} (h : IsInt .i64 v) : ∃ n : Int, v = .int .i64 n := by
  obtain ⟨a, rfl, h⟩ := h
  exact ⟨a, rfl⟩

/-- The seed lies in its box. -/
theorem KB.row {w wr : World} {s : List Nat} (h : KB w s wr) : wr.rangeAt w.heap.size 0 (nums .u8 s) := h.k

set_option maxHeartbeats 4000000 in
theorem walkK_MaskPairs (K : MaskK) (v0 v1 v2 v3 : Value) (w : World) (w0 : IsArr .u8 256 32 v0) (w1 : IsInt .u64 v1) (w2 : IsInt .u64 v2) (w3 : IsInt .i64 v3) (qt : QTab w) :
    Calls Tryd.prog 3 #[v0, v1, v2, v3] w fun e w' => e = .returned (.bool true) ∧ Old w w' := by
  obtain ⟨sd, rfl, hl, hb⟩ := w0
  obtain ⟨s, hs, rfl⟩ := mk64 w1
  obtain ⟨p, hp, rfl⟩ := mk64 w2
  obtain ⟨n, rfl⟩ := mkI w3
  have HQ := hide qt
  have KK := hide K
  have C1 := hide (fun (w' : World) (q : QTab w') => K.pairK s p hs hp n w' q)
  have C2 := hide (refAgree16_any s p hs hp)
  have C3 := hide (fun (w' : World) (q : QTab w') => K.ownK sd hl hb n w' q)
  have C4 := hide (fun w' : World => refOwn_any sd hl hb n w')
  have HI : Hid ((Tryd.prog.info? 22).map (·.size) = some (nums .u8 sd).length) := info_k' hl
  have S0 := hide (KB.start w sd 22)
  have km := hide (kept_le n 256)
  have VL := hide (ownV_length sd (kept n 256))
  have PL := hide (pairV_length (powP p s) (kept n 256))
  have CP := hide (fun (q : Nat) (hq : q < 18446744073709551616) (w' : World) => refPair_any q hq n w')
  have ql : powP p s < 18446744073709551616 := Nat.lt_trans (powP_lt _ _) (by decide)
  have QN : Hid (agE s p = 0 → agN s p = powP p s) := fun h => by unfold agN; rw [if_pos h]
  have CQ := hide (CP.out (powP p s) ql)
  clear CP ql
  generalize powP p s = q at *
  generalize pairV q (kept n 256) = ps at *
  generalize ownV sd (kept n 256) = vs at *
  generalize kept n 256 = m at *
  clear K w1 w2 w3 qt hl hb hs hp
  by_cases hE : agE s p = 0
  · have D1 := hide (fun (w' : World) (q : QTab w') => MR.yes (C1.out w' q) hE)
    rw [hE, QN.out hE] at C2
    clear C1 QN hE
    go_enter Tryd.func3, Tryd.ntmps3
    go_wp2_with fail
    refine (D1.out _ (HQ.out.mono S0.out.old)).mono ?_
    rintro e w1 ⟨g, -, rfl, RP, o1⟩
    have S1 := S0.out.mono o1
    clear D1 S0 o1
    go_wp2_with fail
    refine (C2.out _).mono ?_
    rintro e w2 ⟨rfl, rfl⟩
    clear C2
    go_wp2_with fail
    have S2 : KB w sd (w2.drewN 1) ∧ Old w2 (w2.drewN 1) := ⟨S1.mono ((Old.refl w2).drewN 1), (Old.refl w2).drewN 1⟩
    refine Ssx.region (Ext := Old) (fun w' => KB w sd w' ∧ Old w2 w') [26, 27, 28, 29, 30, 31, 32, 33]
      [(26, Ssx.cst (.agg (nums .u8 sd).toArray)), (27, Ssx.cst (.int .i64 n)), (28, fresh w.heap.size .u32 41 m vs), (29, Ssx.cst (.agg (nums .u8 sd).toArray)), (30, Ssx.cst (.int .i64 n)), (31, fresh w.heap.size .u32 41 m vs), (32, Ssx.cst (.bool true)), (33, Ssx.cst (.bool false))]
      [] (by kernel_rfl) (by kernel_rfl) (by kernel_rfl) (by kernel_rfl) (fun _ _ h => by cases h) (by kernel_rfl) (by kernel_rfl) (by kernel_rfl) S2 ?good ?behind
    case good =>
      refine ⟨Ssx.whole Old.refl rfl rfl w.heap.size (nums .u8 sd) (fun _ _ h => h) (fun _ h => h.1.k) Tryd.underlying22 rfl HI.out (fun _ => rfl), Ssx.mv Old.refl rfl rfl (fun _ _ h => h), ?_, Ssx.whole Old.refl rfl rfl w.heap.size (nums .u8 sd) (fun _ _ h => h) (fun _ h => h.1.k) Tryd.underlying22 rfl HI.out (fun _ => rfl), Ssx.mv Old.refl rfl rfl (fun _ _ h => h), ?_, ?_,
        Ssx.val1 Old.refl (x := 32) (.bool true) (by simp [Op.operands]) rfl (fun _ _ h => h) (fun ρ h1 hc w => by unfold execOp; simp [h1, go_sem]) (fun _ => rfl), trivial⟩
      · refine Ssx.call rfl fun a w' hC hop => ⟨11, #[.agg (nums .u8 sd).toArray, .int .i64 n], ?_, ?_⟩
        · have h1 : a.eval (.tmp 26) = .agg (nums .u8 sd).toArray := hop 26 (by simp [Op.operands, Call.operands])
          have h2 : a.eval (.tmp 27) = .int .i64 n := hop 27 (by simp [Op.operands, Call.operands])
          simp [Act.eval] at h1 h2
          simp [h1, h2, go_sem]
        · exact (C3.out w' (HQ.out.mono hC.1.old)).mono fun _ _ ⟨g, h0, h1, h2, h3⟩ => ⟨_, h1, ⟨hC.1.mono h3, hC.2.trans h3⟩, h3, ⟨g, Nat.le_trans hC.1.old.size h0, rfl, h2⟩⟩
      · refine Ssx.call rfl fun a w' hC hop => ⟨12, #[.agg (nums .u8 sd).toArray, .int .i64 n], ?_, ?_⟩
        · have h1 : a.eval (.tmp 29) = .agg (nums .u8 sd).toArray := hop 29 (by simp [Op.operands, Call.operands])
          have h2 : a.eval (.tmp 30) = .int .i64 n := hop 30 (by simp [Op.operands, Call.operands])
          simp [Act.eval] at h1 h2
          simp [h1, h2, go_sem]
        · exact (C4.out w').mono fun _ _ ⟨g, h0, h1, h2, h3⟩ => ⟨_, h1, ⟨hC.1.mono h3, hC.2.trans h3⟩, h3, ⟨g, Nat.le_trans hC.1.old.size h0, rfl, h2⟩⟩
      · refine Ssx.call rfl fun a w' hC hop => ?_
        obtain ⟨b1, -, h1, r1⟩ : (fresh w.heap.size .u32 41 m vs).p (a.eval (.tmp 28)) w' := hop 28 (by simp [Op.operands, Call.operands])
        obtain ⟨b2, -, h2, r2⟩ : (fresh w.heap.size .u32 41 m vs).p (a.eval (.tmp 31)) w' := hop 31 (by simp [Op.operands, Call.operands])
        refine ⟨10, #[.slice (some ⟨b1, 0, none⟩) m m, .slice (some ⟨b2, 0, none⟩) m m], ?_, ?_⟩
        · simp [Act.eval] at h1 h2
          simp [h1, h2, go_sem]
        · have := km.out
          refine (R1.Cells_any m m vs vs _ _ m m w' (by omega) VL.out VL.out r1.rd r2.rd).mono fun _ _ ⟨h1, h2⟩ => ⟨_, h1, ⟨hC.1.mono h2, hC.2.trans h2⟩, h2, ?_⟩
          show Value.bool _ = Value.bool true
          simp
    case behind =>
      intro vals w3 hC hv
      have h33 : vals 33 = .bool false := hv _ (.tail _ (.tail _ (.tail _ (.tail _ (.tail _ (.tail _ (.tail _ (.head _))))))))
      have O3 := hC.1.old
      have RP3 := RP.mono hC.2
      clear hC hv RP S1 S2 C3 C4
      simp only [Ssa.putAll, List.map_cons, List.map_nil, List.foldl_cons, List.foldl_nil, List.setIfInBounds_toArray, List.set_cons_succ, List.set_cons_zero]
      rw [h33]
      clear h33
      generalize vals 26 = x26
      generalize vals 27 = x27
      generalize vals 28 = x28
      generalize vals 29 = x29
      generalize vals 30 = x30
      generalize vals 31 = x31
      generalize vals 32 = x32
      rename_i Q0 K0 hK
      refine hK _ w3 ?_
      clear hK
      go_wp2_with fail
      refine (awake17 KK.out _ (HQ.out.mono O3)).mono ?_
      rintro e w4 ⟨rfl, o4⟩
      have O4 := O3.trans o4
      have RP4 := RP3.mono o4
      clear O3 o4 RP3
      go_wp2_with fail
      refine (CQ.out _).mono ?_
      rintro e w5 ⟨g5, -, rfl, R5, o5⟩
      have O5 := O4.trans o5
      have SM := hide (R1.Cells_any m m ps ps (some ⟨g, 0, none⟩) (some ⟨g5, 0, none⟩) m m w5 (by have := km.out; omega) PL.out PL.out (RP4.mono o5).rd R5.rd)
      rw [decide_eq_true rfl] at SM
      clear O4 o5 RP4 R5 CQ
      go_wp2_with fail
      refine SM.out.mono ?_
      rintro e w6 ⟨rfl, o6⟩
      go_wp2
      go_ret
      exact ⟨by first | rfl | simp, O5.trans o6⟩
  · have D1 := hide (fun (w' : World) (q : QTab w') => MR.no (C1.out w' q) hE)
    have hE2 : ((agE s p : Int) != 0) = true := by rw [bne_iff_ne]; omega
    clear C1 QN hE CQ
    generalize agE s p = E at *
    generalize agN s p = N at *
    go_enter Tryd.func3, Tryd.ntmps3
    go_wp2_with fail
    refine (D1.out _ (HQ.out.mono S0.out.old)).mono ?_
    rintro e w1 ⟨rfl, o1⟩
    have S1 := S0.out.mono o1
    clear D1 S0 o1
    go_wp2_with fail
    refine (C2.out _).mono ?_
    rintro e w2 ⟨rfl, rfl⟩
    clear C2
    go_wp2_with fail
    have S2 : KB w sd (w2.drewN 1) := S1.mono ((Old.refl w2).drewN 1)
    refine Ssx.region (Ext := Old) (KB w sd) [26, 27, 28, 29, 30, 31, 32, 33]
      [(26, Ssx.cst (.agg (nums .u8 sd).toArray)), (27, Ssx.cst (.int .i64 n)), (28, fresh w.heap.size .u32 41 m vs), (29, Ssx.cst (.agg (nums .u8 sd).toArray)), (30, Ssx.cst (.int .i64 n)), (31, fresh w.heap.size .u32 41 m vs), (32, Ssx.cst (.bool true)), (33, Ssx.cst (.bool false))]
      [] (by kernel_rfl) (by kernel_rfl) (by kernel_rfl) (by kernel_rfl) (fun _ _ h => by cases h) (by kernel_rfl) (by kernel_rfl) (by kernel_rfl) S2 ?good2 ?behind2
    case good2 =>
      refine ⟨Ssx.whole Old.refl rfl rfl w.heap.size (nums .u8 sd) (fun _ _ h => h) (fun _ h => h.k) Tryd.underlying22 rfl HI.out (fun _ => rfl), Ssx.mv Old.refl rfl rfl (fun _ _ h => h), ?_, Ssx.whole Old.refl rfl rfl w.heap.size (nums .u8 sd) (fun _ _ h => h) (fun _ h => h.k) Tryd.underlying22 rfl HI.out (fun _ => rfl), Ssx.mv Old.refl rfl rfl (fun _ _ h => h), ?_, ?_,
        Ssx.val1 Old.refl (x := 32) (.bool true) (by simp [Op.operands]) rfl (fun _ _ h => h) (fun ρ h1 hc w => by unfold execOp; simp [h1, go_sem]) (fun _ => rfl), trivial⟩
      · refine Ssx.call rfl fun a w' hC hop => ⟨11, #[.agg (nums .u8 sd).toArray, .int .i64 n], ?_, ?_⟩
        · have h1 : a.eval (.tmp 26) = .agg (nums .u8 sd).toArray := hop 26 (by simp [Op.operands, Call.operands])
          have h2 : a.eval (.tmp 27) = .int .i64 n := hop 27 (by simp [Op.operands, Call.operands])
          simp [Act.eval] at h1 h2
          simp [h1, h2, go_sem]
        · exact (C3.out w' (HQ.out.mono hC.old)).mono fun _ _ ⟨g, h0, h1, h2, h3⟩ => ⟨_, h1, hC.mono h3, h3, ⟨g, Nat.le_trans hC.old.size h0, rfl, h2⟩⟩
      · refine Ssx.call rfl fun a w' hC hop => ⟨12, #[.agg (nums .u8 sd).toArray, .int .i64 n], ?_, ?_⟩
        · have h1 : a.eval (.tmp 29) = .agg (nums .u8 sd).toArray := hop 29 (by simp [Op.operands, Call.operands])
          have h2 : a.eval (.tmp 30) = .int .i64 n := hop 30 (by simp [Op.operands, Call.operands])
          simp [Act.eval] at h1 h2
          simp [h1, h2, go_sem]
        · exact (C4.out w').mono fun _ _ ⟨g, h0, h1, h2, h3⟩ => ⟨_, h1, hC.mono h3, h3, ⟨g, Nat.le_trans hC.old.size h0, rfl, h2⟩⟩
      · refine Ssx.call rfl fun a w' hC hop => ?_
        obtain ⟨b1, -, h1, r1⟩ : (fresh w.heap.size .u32 41 m vs).p (a.eval (.tmp 28)) w' := hop 28 (by simp [Op.operands, Call.operands])
        obtain ⟨b2, -, h2, r2⟩ : (fresh w.heap.size .u32 41 m vs).p (a.eval (.tmp 31)) w' := hop 31 (by simp [Op.operands, Call.operands])
        refine ⟨10, #[.slice (some ⟨b1, 0, none⟩) m m, .slice (some ⟨b2, 0, none⟩) m m], ?_, ?_⟩
        · simp [Act.eval] at h1 h2
          simp [h1, h2, go_sem]
        · have := km.out
          refine (R1.Cells_any m m vs vs _ _ m m w' (by omega) VL.out VL.out r1.rd r2.rd).mono fun _ _ ⟨h1, h2⟩ => ⟨_, h1, hC.mono h2, h2, ?_⟩
          show Value.bool _ = Value.bool true
          simp
    case behind2 =>
      intro vals w3 hC hv
      have h33 : vals 33 = .bool false := hv _ (.tail _ (.tail _ (.tail _ (.tail _ (.tail _ (.tail _ (.tail _ (.head _))))))))
      have O3 := hC.old
      clear hC hv S1 S2 C3 C4
      simp only [Ssa.putAll, List.map_cons, List.map_nil, List.foldl_cons, List.foldl_nil, List.setIfInBounds_toArray, List.set_cons_succ, List.set_cons_zero]
      rw [h33]
      clear h33
      generalize vals 26 = x26
      generalize vals 27 = x27
      generalize vals 28 = x28
      generalize vals 29 = x29
      generalize vals 30 = x30
      generalize vals 31 = x31
      generalize vals 32 = x32
      rename_i Q0 K0 hK
      refine hK _ w3 ?_
      clear hK
      go_wp2_with fail
      refine (awake17 KK.out _ (HQ.out.mono O3)).mono ?_
      rintro e w4 ⟨rfl, o4⟩
      go_wp2
      go_ret
      exact ⟨by first | rfl | simp, O3.trans o4⟩

set_option maxHeartbeats 2000000 in
theorem walkK_MaskLeft (K : MaskK) (v0 v1 v2 v3 : Value) (w : World) (w0 : IsInt .i64 v0) (w1 : IsInt .u64 v1) (w2 : IsCards w v2) (w3 : IsInt .i64 v3) (qt : QTab w) :
    Calls Tryd.prog 5 #[v0, v1, v2, v3] w fun e w' => e = .returned (.bool true) ∧ Old w w' := by
  obtain ⟨who, rfl⟩ := mkI w0
  obtain ⟨s, hs, rfl⟩ := mk64 w1
  obtain ⟨a, cap, l0, rfl, hc, hl, rd, hk⟩ := w2
  obtain ⟨n, rfl⟩ := mkI w3
  have HQ := hide qt
  have KK := hide K
  have CF := hide (few_any l0 a cap hc w rd)
  have C1 := hide (fun (w' : World) (o : Old w w') => K.leftK who s hs (fewL l0) a (fewL l0).length cap rfl (fewL_le hl) (fewL_ok hk) n w' ((fewL_in rd).mono o) (qt.mono o))
  have C2 := hide (fun (w' : World) (o : Old w w') => refMasks_all who s hs (fewL l0) a (fewL l0).length cap rfl (fewL_le hl) (fewL_ok hk) n true w' ((fewL_in rd).mono o))
  have NB : Hid (masksE who s n (fewL l0) = 0 → n.toNat ≤ 256) := fun h => by
    have := argB_n (masksE_zero h)
    omega
  have ML := hide (mskL_length who s n.toNat true (fewL l0))
  generalize mskL who s n.toNat true (fewL l0) = ms at *
  generalize fewL l0 = l at *
  generalize n.toNat = m at *
  generalize masksE who s n l = E at *
  clear K w0 w1 w3 qt hc hl rd hk hs
  by_cases hE : E = 0
  · have D1 := hide (fun (w' : World) (o : Old w w') => MR.yes (C1.out w' o) hE)
    have D2 := hide (fun (w' : World) (o : Old w w') => MR.yes (C2.out w' o) hE)
    have N2 := NB.out hE
    clear C1 C2 NB hE
    go_enter Tryd.func5, Tryd.ntmps5
    go_wp2_with fail
    refine CF.out.mono ?_
    rintro e w1 ⟨rfl, rfl⟩
    clear CF
    go_wp2_with fail
    refine (D1.out _ (Old.refl _)).mono ?_
    rintro e w2 ⟨g, -, rfl, R2, o2⟩
    clear D1
    go_wp2_with fail
    refine (D2.out _ o2).mono ?_
    rintro e w3 ⟨g3, -, rfl, R3, o3⟩
    have O3 := o2.trans o3
    have R23 := R2.mono o3
    clear D2 o2 o3 R2
    go_wp2_with fail
    refine (awake17 KK.out _ (HQ.out.mono O3)).mono ?_
    rintro e w4 ⟨rfl, o4⟩
    have SM := hide (R1.Cells_any m m ms ms (some ⟨g, 0, none⟩) (some ⟨g3, 0, none⟩) m m w4 (by omega) ML.out ML.out (R23.mono o4).rd (R3.mono o4).rd)
    rw [decide_eq_true rfl] at SM
    clear R23 R3
    go_wp2_with fail
    refine SM.out.mono ?_
    rintro e w5 ⟨rfl, o5⟩
    go_wp2
    go_ret
    exact ⟨by first | rfl | simp, (O3.trans o4).trans o5⟩
  · have D1 := hide (fun (w' : World) (o : Old w w') => MR.no (C1.out w' o) hE)
    have D2 := hide (fun (w' : World) (o : Old w w') => MR.no (C2.out w' o) hE)
    clear C1 C2 NB hE
    go_enter Tryd.func5, Tryd.ntmps5
    go_wp2_with fail
    refine CF.out.mono ?_
    rintro e w1 ⟨rfl, rfl⟩
    clear CF
    go_wp2_with fail
    refine (D1.out _ (Old.refl _)).mono ?_
    rintro e w2 ⟨rfl, o2⟩
    clear D1
    go_wp2_with fail
    refine (D2.out _ o2).mono ?_
    rintro e w3 ⟨rfl, o3⟩
    have O3 := o2.trans o3
    clear D2 o2 o3
    go_wp2_with fail
    refine (awake17 KK.out _ (HQ.out.mono O3)).mono ?_
    rintro e w4 ⟨rfl, o4⟩
    have SM := hide (R1.Cells_any 0 0 [] [] none none 0 0 w4 (by omega) rfl rfl (Rd.nil _) (Rd.nil _))
    rw [decide_eq_true rfl] at SM
    go_wp2_with fail
    refine SM.out.mono ?_
    rintro e w5 ⟨rfl, o5⟩
    go_wp2
    go_ret
    exact ⟨by first | rfl | simp, (O3.trans o4).trans o5⟩
end Go.Proofs.YtjbpnhibgafdmaaDoor
