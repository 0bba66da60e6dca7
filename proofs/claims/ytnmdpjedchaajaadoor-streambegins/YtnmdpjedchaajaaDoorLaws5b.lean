/-
  The walk of StreamBytes: any seed's bytes, and any tag's nonce, are the document's.
-/
import Derived.Test.YtnmdpjedchaajaaDoorLaws5
namespace Go.Proofs.YtnmdpjedchaajaaDoor
open Go.RowKit Cha
set_option linter.unusedVariables false

theorem eq_nonce (t : Nat) (w : World) : (Op.equalIn 10000 25 (.agg (nums .u8 (nonceOf t)).toArray) (.agg (nums .u8 (nonceOf t)).toArray)).run Tryd.prog w = .ok true w := by
  have := eq_bytes (P := Tryd.prog) Tryd.underlying25 Tryd.underlying5 (fun w => by kernel_rfl) (nonceOf t) (nonceOf t) rfl rfl (nonceOf_lt t) (nonceOf_lt t) w
  rw [this]; simp

set_option maxHeartbeats 4000000 in
theorem walk_StreamBytes (v0 v1 v2 : Value) (w : World) (w0 : IsArr .u8 256 32 v0) (w1 : IsInt .u32 v1) (w2 : IsInt .i64 v2) (ht : QTab w) :
    Calls Tryd.prog 3 #[v0, v1, v2] w fun e w' => e = .returned (.bool true) ∧ Old w w' := by
  obtain ⟨s, rfl, hl, hb⟩ := w0
  obtain ⟨t, htt, rfl⟩ := is32 w1
  obtain ⟨n, hn1, hn2, rfl⟩ := isI64 w2
  have HT := hide ht
  have C1 := hide (Bytes_any s hl hb t htt)
  have C2 := hide (refBytes_any s hl hb t htt)
  have C3 := hide (Nonce_any t htt)
  have C4 := hide (refNonce_any t htt)
  have HE := hide (eq_nonce t)
  have HI : Hid ((Tryd.prog.info? 22).map (·.size) = some (nums .u8 s).length) := info_k' hl
  have S0 := hide (KB.start w s 22)
  clear w1 w2 ht hl hb htt
  by_cases hn : 5000 < n
  · go_enter Tryd.func3, Tryd.ntmps3
    go_wp2_with fail
    generalize n % 5000 + 5000 = z
    have C1' := hide (C1.out z)
    have C2' := hide (C2.out z)
    have VL := hide (sbytes_length s t (kept z 65536))
    clear C1 C2
    revert C1' C2' VL
    generalize kept z 65536 = m
    generalize sbytes s t m = bs
    intro C1 C2 VL
    obtain ⟨W0, hW0⟩ : ∃ W, W = w.alloc (.cells (nums .u8 s).toArray 22) := ⟨_, rfl⟩
    have S1 := S0.out
    rw [← hW0] at S1 ⊢
    replace S1 : KB w s (W0.drewN 1) := S1.mono ((Old.refl W0).drewN 1)
    clear S0 hW0
    refine Ssx.region (Ext := Old) (KB w s) [12, 13, 14, 15, 16, 17, 18, 19, 20, 21, 22, 23, 24, 25, 26, 27, 28, 29, 30, 31, 32, 6]
      [(12, Ssx.cst (.bool true)), (13, Ssx.cst (.bool true)), (14, Ssx.nat .u32 t), (15, Ssx.cst (.agg (nums .u8 (nonceOf t)).toArray)), (16, Ssx.nat .u32 t), (17, Ssx.cst (.agg (nums .u8 (nonceOf t)).toArray)), (18, Ssx.cst (.bool true)), (19, Ssx.cst (.bool true)), (20, Ssx.cst (.bool true)), (21, Ssx.cst (.agg (nums .u8 s).toArray)), (22, Ssx.nat .u32 t), (23, Ssx.cst (.int .i64 z)), (24, fresh w.heap.size .u8 5 m bs), (25, Ssx.cst (.string (Ssb.bstr bs))), (26, Ssx.cst (.agg (nums .u8 s).toArray)), (27, Ssx.nat .u32 t), (28, Ssx.cst (.int .i64 z)), (29, fresh w.heap.size .u8 5 m bs), (30, Ssx.cst (.string (Ssb.bstr bs))), (31, Ssx.cst (.bool true)), (32, Ssx.cst (.bool true)), (6, Ssx.cst (.bool true))]
      [(13, true), (20, true)] (by kernel_rfl) (by kernel_rfl) (by kernel_rfl) (by kernel_rfl) ?told (by kernel_rfl) (by kernel_rfl) (by kernel_rfl) S1 ?good ?behind
    case told =>
      intro t b ht v w' h
      simp only [List.mem_cons, List.not_mem_nil, or_false, Prod.mk.injEq] at ht
      rcases ht with ⟨rfl, rfl⟩ | ⟨rfl, rfl⟩ <;> exact h
    case good =>
      refine ⟨?_, Ssx.mv Old.refl rfl rfl (fun _ _ h => h), Ssx.mv Old.refl rfl rfl (fun _ _ h => h), ?_, Ssx.mv Old.refl rfl rfl (fun _ _ h => h), ?_, Ssx.eqa Old.refl rfl rfl (by kernel_rfl) (nums .u8 (nonceOf t)).toArray (fun _ _ h => h) (fun _ _ h => h) HE.out (fun _ => rfl), Ssx.and Old.refl rfl rfl (fun _ _ h => h) (fun _ _ h => h), Ssx.mv Old.refl rfl rfl (fun _ _ h => h), Ssx.whole Old.refl rfl rfl w.heap.size (nums .u8 s) (fun _ _ h => h) (fun _ h => h.k) Tryd.underlying22 rfl HI.out (fun _ => rfl), Ssx.mv Old.refl rfl rfl (fun _ _ h => h), Ssx.mv Old.refl rfl rfl (fun _ _ h => h), ?_, Ssx.str Old.refl rfl rfl Tryd.underlying27 Tryd.underlying5 Tryd.underlying9 (fun _ _ _ ⟨g, _, h1, h2⟩ => ⟨_, _, _, _, h1, VL.out, h2.rd, rfl⟩), Ssx.whole Old.refl rfl rfl w.heap.size (nums .u8 s) (fun _ _ h => h) (fun _ h => h.k) Tryd.underlying22 rfl HI.out (fun _ => rfl), Ssx.mv Old.refl rfl rfl (fun _ _ h => h), Ssx.mv Old.refl rfl rfl (fun _ _ h => h), ?_, Ssx.str Old.refl rfl rfl Tryd.underlying27 Tryd.underlying5 Tryd.underlying9 (fun _ _ _ ⟨g, _, h1, h2⟩ => ⟨_, _, _, _, h1, VL.out, h2.rd, rfl⟩), Ssx.eqs Old.refl rfl rfl Tryd.underlying9 _ (fun _ _ h => h) (fun _ _ h => h) (fun _ => rfl), Ssx.and Old.refl rfl rfl (fun _ _ h => h) (fun _ _ h => h), Ssx.asg Old.refl rfl rfl (fun _ _ h => h), trivial⟩
      · refine Ssx.call rfl fun a w' hC hop => ⟨8, #[], ?_, ?_⟩
        · simp [go_sem]
        · exact (awake5 w' (HT.out.mono hC.old)).mono fun _ _ ⟨h1, h2⟩ => ⟨_, h1, hC.mono h2, h2, rfl⟩
      · refine Ssx.call rfl fun a w' hC hop => ⟨9, #[.int .u32 (t : Nat)], ?_, ?_⟩
        · have h1 : a.eval (.tmp 14) = .int .u32 (t : Nat) := hop 14 (by simp [Op.operands, Call.operands])
          simp [Act.eval] at h1
          simp [h1, go_sem]
        · exact (C3.out w').mono fun _ _ ⟨h1, h2⟩ => ⟨_, h1, hC.mono h2, h2, rfl⟩
      · refine Ssx.call rfl fun a w' hC hop => ⟨10, #[.int .u32 (t : Nat)], ?_, ?_⟩
        · have h1 : a.eval (.tmp 16) = .int .u32 (t : Nat) := hop 16 (by simp [Op.operands, Call.operands])
          simp [Act.eval] at h1
          simp [h1, go_sem]
        · exact (C4.out w').mono fun _ _ ⟨h1, h2⟩ => ⟨_, h1, hC.mono h2, h2, rfl⟩
      · refine Ssx.call rfl fun a w' hC hop => ⟨11, #[.agg (nums .u8 s).toArray, .int .u32 (t : Nat), .int .i64 z], ?_, ?_⟩
        · have h1 : a.eval (.tmp 21) = .agg (nums .u8 s).toArray := hop 21 (by simp [Op.operands, Call.operands])
          have h2 : a.eval (.tmp 22) = .int .u32 (t : Nat) := hop 22 (by simp [Op.operands, Call.operands])
          have h3 : a.eval (.tmp 23) = .int .i64 z := hop 23 (by simp [Op.operands, Call.operands])
          simp [Act.eval] at h1 h2 h3
          simp [h1, h2, h3, go_sem]
        · exact (C1.out w' (HT.out.mono hC.old)).mono fun _ _ ⟨g, h0, h1, h2, h3⟩ => ⟨_, h1, hC.mono h3, h3, ⟨g, Nat.le_trans hC.old.size h0, rfl, h2⟩⟩
      · refine Ssx.call rfl fun a w' hC hop => ⟨12, #[.agg (nums .u8 s).toArray, .int .u32 (t : Nat), .int .i64 z], ?_, ?_⟩
        · have h1 : a.eval (.tmp 26) = .agg (nums .u8 s).toArray := hop 26 (by simp [Op.operands, Call.operands])
          have h2 : a.eval (.tmp 27) = .int .u32 (t : Nat) := hop 27 (by simp [Op.operands, Call.operands])
          have h3 : a.eval (.tmp 28) = .int .i64 z := hop 28 (by simp [Op.operands, Call.operands])
          simp [Act.eval] at h1 h2 h3
          simp [h1, h2, h3, go_sem]
        · exact (C2.out w').mono fun _ _ ⟨g, h0, h1, h2, h3⟩ => ⟨_, h1, hC.mono h3, h3, ⟨g, Nat.le_trans hC.old.size h0, rfl, h2⟩⟩
    case behind =>
      intro vals w' hC hv
      have h6 : vals 6 = .bool true := hv _ (.tail _ (.tail _ (.tail _ (.tail _ (.tail _ (.tail _ (.tail _ (.tail _ (.tail _ (.tail _ (.tail _ (.tail _ (.tail _ (.tail _ (.tail _ (.tail _ (.tail _ (.tail _ (.tail _ (.tail _ (.tail _ (.head _))))))))))))))))))))))
      have hol := hC.old
      clear hC hv
      simp only [Ssa.putAll, List.map_cons, List.map_nil, List.foldl_cons, List.foldl_nil, List.setIfInBounds_toArray, List.set_cons_succ, List.set_cons_zero]
      rename_i Q0 K0 hK
      refine hK _ w' ?_
      clear hK
      rw [h6]
      go_wp2
      go_ret
      exact ⟨rfl, hol⟩
  · go_enter Tryd.func3, Tryd.ntmps3
    go_wp2_with fail
    clear hn hn1 hn2
    have C1' := hide (C1.out n)
    have C2' := hide (C2.out n)
    have VL := hide (sbytes_length s t (kept n 65536))
    clear C1 C2
    revert C1' C2' VL
    generalize kept n 65536 = m
    generalize sbytes s t m = bs
    intro C1 C2 VL
    obtain ⟨W0, hW0⟩ : ∃ W, W = w.alloc (.cells (nums .u8 s).toArray 22) := ⟨_, rfl⟩
    have S1 := S0.out
    rw [← hW0] at S1 ⊢
    replace S1 : KB w s (W0.drewN 1) := S1.mono ((Old.refl W0).drewN 1)
    clear S0 hW0
    refine Ssx.region (Ext := Old) (KB w s) [12, 13, 14, 15, 16, 17, 18, 19, 20, 21, 22, 23, 24, 25, 26, 27, 28, 29, 30, 31, 32, 6]
      [(12, Ssx.cst (.bool true)), (13, Ssx.cst (.bool true)), (14, Ssx.nat .u32 t), (15, Ssx.cst (.agg (nums .u8 (nonceOf t)).toArray)), (16, Ssx.nat .u32 t), (17, Ssx.cst (.agg (nums .u8 (nonceOf t)).toArray)), (18, Ssx.cst (.bool true)), (19, Ssx.cst (.bool true)), (20, Ssx.cst (.bool true)), (21, Ssx.cst (.agg (nums .u8 s).toArray)), (22, Ssx.nat .u32 t), (23, Ssx.cst (.int .i64 n)), (24, fresh w.heap.size .u8 5 m bs), (25, Ssx.cst (.string (Ssb.bstr bs))), (26, Ssx.cst (.agg (nums .u8 s).toArray)), (27, Ssx.nat .u32 t), (28, Ssx.cst (.int .i64 n)), (29, fresh w.heap.size .u8 5 m bs), (30, Ssx.cst (.string (Ssb.bstr bs))), (31, Ssx.cst (.bool true)), (32, Ssx.cst (.bool true)), (6, Ssx.cst (.bool true))]
      [(13, true), (20, true)] (by kernel_rfl) (by kernel_rfl) (by kernel_rfl) (by kernel_rfl) ?told (by kernel_rfl) (by kernel_rfl) (by kernel_rfl) S1 ?good ?behind
    case told =>
      intro t b ht v w' h
      simp only [List.mem_cons, List.not_mem_nil, or_false, Prod.mk.injEq] at ht
      rcases ht with ⟨rfl, rfl⟩ | ⟨rfl, rfl⟩ <;> exact h
    case good =>
      refine ⟨?_, Ssx.mv Old.refl rfl rfl (fun _ _ h => h), Ssx.mv Old.refl rfl rfl (fun _ _ h => h), ?_, Ssx.mv Old.refl rfl rfl (fun _ _ h => h), ?_, Ssx.eqa Old.refl rfl rfl (by kernel_rfl) (nums .u8 (nonceOf t)).toArray (fun _ _ h => h) (fun _ _ h => h) HE.out (fun _ => rfl), Ssx.and Old.refl rfl rfl (fun _ _ h => h) (fun _ _ h => h), Ssx.mv Old.refl rfl rfl (fun _ _ h => h), Ssx.whole Old.refl rfl rfl w.heap.size (nums .u8 s) (fun _ _ h => h) (fun _ h => h.k) Tryd.underlying22 rfl HI.out (fun _ => rfl), Ssx.mv Old.refl rfl rfl (fun _ _ h => h), Ssx.mv Old.refl rfl rfl (fun _ _ h => h), ?_, Ssx.str Old.refl rfl rfl Tryd.underlying27 Tryd.underlying5 Tryd.underlying9 (fun _ _ _ ⟨g, _, h1, h2⟩ => ⟨_, _, _, _, h1, VL.out, h2.rd, rfl⟩), Ssx.whole Old.refl rfl rfl w.heap.size (nums .u8 s) (fun _ _ h => h) (fun _ h => h.k) Tryd.underlying22 rfl HI.out (fun _ => rfl), Ssx.mv Old.refl rfl rfl (fun _ _ h => h), Ssx.mv Old.refl rfl rfl (fun _ _ h => h), ?_, Ssx.str Old.refl rfl rfl Tryd.underlying27 Tryd.underlying5 Tryd.underlying9 (fun _ _ _ ⟨g, _, h1, h2⟩ => ⟨_, _, _, _, h1, VL.out, h2.rd, rfl⟩), Ssx.eqs Old.refl rfl rfl Tryd.underlying9 _ (fun _ _ h => h) (fun _ _ h => h) (fun _ => rfl), Ssx.and Old.refl rfl rfl (fun _ _ h => h) (fun _ _ h => h), Ssx.asg Old.refl rfl rfl (fun _ _ h => h), trivial⟩
      · refine Ssx.call rfl fun a w' hC hop => ⟨8, #[], ?_, ?_⟩
        · simp [go_sem]
        · exact (awake5 w' (HT.out.mono hC.old)).mono fun _ _ ⟨h1, h2⟩ => ⟨_, h1, hC.mono h2, h2, rfl⟩
      · refine Ssx.call rfl fun a w' hC hop => ⟨9, #[.int .u32 (t : Nat)], ?_, ?_⟩
        · have h1 : a.eval (.tmp 14) = .int .u32 (t : Nat) := hop 14 (by simp [Op.operands, Call.operands])
          simp [Act.eval] at h1
          simp [h1, go_sem]
        · exact (C3.out w').mono fun _ _ ⟨h1, h2⟩ => ⟨_, h1, hC.mono h2, h2, rfl⟩
      · refine Ssx.call rfl fun a w' hC hop => ⟨10, #[.int .u32 (t : Nat)], ?_, ?_⟩
        · have h1 : a.eval (.tmp 16) = .int .u32 (t : Nat) := hop 16 (by simp [Op.operands, Call.operands])
          simp [Act.eval] at h1
          simp [h1, go_sem]
        · exact (C4.out w').mono fun _ _ ⟨h1, h2⟩ => ⟨_, h1, hC.mono h2, h2, rfl⟩
      · refine Ssx.call rfl fun a w' hC hop => ⟨11, #[.agg (nums .u8 s).toArray, .int .u32 (t : Nat), .int .i64 n], ?_, ?_⟩
        · have h1 : a.eval (.tmp 21) = .agg (nums .u8 s).toArray := hop 21 (by simp [Op.operands, Call.operands])
          have h2 : a.eval (.tmp 22) = .int .u32 (t : Nat) := hop 22 (by simp [Op.operands, Call.operands])
          have h3 : a.eval (.tmp 23) = .int .i64 n := hop 23 (by simp [Op.operands, Call.operands])
          simp [Act.eval] at h1 h2 h3
          simp [h1, h2, h3, go_sem]
        · exact (C1.out w' (HT.out.mono hC.old)).mono fun _ _ ⟨g, h0, h1, h2, h3⟩ => ⟨_, h1, hC.mono h3, h3, ⟨g, Nat.le_trans hC.old.size h0, rfl, h2⟩⟩
      · refine Ssx.call rfl fun a w' hC hop => ⟨12, #[.agg (nums .u8 s).toArray, .int .u32 (t : Nat), .int .i64 n], ?_, ?_⟩
        · have h1 : a.eval (.tmp 26) = .agg (nums .u8 s).toArray := hop 26 (by simp [Op.operands, Call.operands])
          have h2 : a.eval (.tmp 27) = .int .u32 (t : Nat) := hop 27 (by simp [Op.operands, Call.operands])
          have h3 : a.eval (.tmp 28) = .int .i64 n := hop 28 (by simp [Op.operands, Call.operands])
          simp [Act.eval] at h1 h2 h3
          simp [h1, h2, h3, go_sem]
        · exact (C2.out w').mono fun _ _ ⟨g, h0, h1, h2, h3⟩ => ⟨_, h1, hC.mono h3, h3, ⟨g, Nat.le_trans hC.old.size h0, rfl, h2⟩⟩
    case behind =>
      intro vals w' hC hv
      have h6 : vals 6 = .bool true := hv _ (.tail _ (.tail _ (.tail _ (.tail _ (.tail _ (.tail _ (.tail _ (.tail _ (.tail _ (.tail _ (.tail _ (.tail _ (.tail _ (.tail _ (.tail _ (.tail _ (.tail _ (.tail _ (.tail _ (.tail _ (.tail _ (.head _))))))))))))))))))))))
      have hol := hC.old
      clear hC hv
      simp only [Ssa.putAll, List.map_cons, List.map_nil, List.foldl_cons, List.foldl_nil, List.setIfInBounds_toArray, List.set_cons_succ, List.set_cons_zero]
      rename_i Q0 K0 hK
      refine hK _ w' ?_
      clear hK
      rw [h6]
      go_wp2
      go_ret
      exact ⟨rfl, hol⟩
end Go.Proofs.YtnmdpjedchaajaaDoor
