/-
  The walks of layer 5's statements StreamMost, StreamVectors and StreamDerives: each law returns true at any seed, tag and count, where the package's table is as its initialiser lays it.
-/
import Derived.Test.YtnmdpjedchaajaaDoorAwake5
import Derived.Test.YtnmdpjedchaajaaDoorRefVector
import Derived.Test.YtnmdpjedchaajaaDoorRefDerive
import Derived.Test.YtnmdpjedchaajaaDoorCells
import Derived.Test.YtnmdpjedchaajaaDoorOpen
namespace Go.Proofs.YtnmdpjedchaajaaDoor
open Go.RowKit Cha
set_option linter.unusedVariables false

theorem is32 {v : Value} (h : IsInt .u32 v) : ∃ n : Nat, n < 4294967296 ∧ v = .int .u32 (n : Int) := by
  obtain ⟨a, rfl, h⟩ := h
  have := bounds_u32 h
  exact ⟨a.toNat, by omega, by congr; omega⟩
theorem is64 {v : Value} (h : IsInt .u64 v) : ∃ n : Nat, n < 18446744073709551616 ∧ v = .int .u64 (n : Int) := by
  obtain ⟨a, rfl, h⟩ := h
  have := bounds_u64 h
  exact ⟨a.toNat, by omega, by congr; omega⟩
theorem isI64 {v : Value} (h : IsInt .i64 v) : ∃ n : Int, -9223372036854775808 ≤ n ∧ n ≤ 9223372036854775807 ∧ v = .int .i64 n := by
  obtain ⟨a, rfl, h⟩ := h
  have := bounds_i64 h
  exact ⟨a, by omega, by omega, rfl⟩

set_option maxHeartbeats 2000000 in
theorem walk_StreamMost (v0 v1 v2 : Value) (w : World) (w0 : IsArr .u8 256 32 v0) (w1 : IsInt .u32 v1) (w2 : IsInt .i64 v2) (ht : QTab w) :
    Calls Tryd.prog 4 #[v0, v1, v2] w fun e w' => e = .returned (.bool true) ∧ Old w w' := by
  obtain ⟨s, rfl, hl, hb⟩ := w0
  obtain ⟨t, htt, rfl⟩ := is32 w1
  obtain ⟨n, -, -, rfl⟩ := isI64 w2
  have HT := hide ht
  have C1 := hide (Vector_any s hl hb t htt n)
  have HI : Hid ((Tryd.prog.info? 22).map (·.size) = some (nums .u8 s).length) := info_k' hl
  have K1 : Hid (Row (w.alloc (.cells (nums .u8 s).toArray 22)) w.heap.size 22 (nums .u8 s)) := Row.new w _ _
  have O1 : Hid (Old w (w.alloc (.cells (nums .u8 s).toArray 22))) := Old.of_alloc _ _
  have hcs := hide (kept_cases n 256)
  have km := hide (kept_le n 256)
  revert C1 hcs km
  generalize kept n 256 = m
  intro C1 hcs km
  clear w1 w2 ht hl hb htt
  go_enter Tryd.func4, Tryd.ntmps4
  go_wp2_with (refine wp_load_whole rfl 22 _ rfl w.heap.size rfl K1.out Tryd.underlying22 rfl HI.out ?_)
  refine (C1.out _ (HT.out.mono O1.out)).mono ?_
  rintro e w1 ⟨g, hg, rfl, RV, o1⟩
  have O2 := O1.out.trans o1
  clear C1 K1 O1 o1 hg RV
  go_wp2_with fail
  refine (awake5 _ (HT.out.mono O2)).mono ?_
  rintro e w2 ⟨rfl, o2⟩
  have O3 := O2.trans o2
  clear O2 o2
  have h1 : decide ((m : Int) ≤ 256) = true := decide_eq_true (by have := km.out; omega)
  rcases hcs.out with ⟨hn, hc⟩ | ⟨hn, hn2, hc⟩ | ⟨hn, hc⟩
  · have h2 : decide ((256 : Int) < n) = false := decide_eq_false (by omega)
    have h3 : decide (n < 0) = true := decide_eq_true hn
    have h4 : decide (0 ≤ n) = false := decide_eq_false (by omega)
    have h5 : ((m : Int) == 0) = true := by rw [beq_iff_eq]; omega
    clear hcs km
    go_wp2
    go_ret
    exact ⟨rfl, O3⟩
  · have h2 : decide ((256 : Int) < n) = false := decide_eq_false (by omega)
    have h3 : decide (n < 0) = false := decide_eq_false (by omega)
    have h4 : decide (0 ≤ n) = true := decide_eq_true hn
    have h5 : ((m : Int) == n) = true := by rw [beq_iff_eq]; omega
    clear hcs km
    go_wp2
    go_ret
    exact ⟨rfl, O3⟩
  · have h2 : decide ((256 : Int) < n) = true := decide_eq_true (by omega)
    have h4 : decide (0 ≤ n) = true := decide_eq_true (by omega)
    clear hcs km
    go_wp2
    go_ret
    exact ⟨rfl, O3⟩

set_option maxHeartbeats 2000000 in
theorem walk_StreamDerives (v0 v1 : Value) (w : World) (w0 : IsInt .u64 v0) (w1 : IsInt .u32 v1) (ht : QTab w) :
    Calls Tryd.prog 6 #[v0, v1] w fun e w' => e = .returned (.bool true) ∧ Old w w' := by
  obtain ⟨n, hn, rfl⟩ := is64 w0
  obtain ⟨t, htt, rfl⟩ := is32 w1
  have HT := hide ht
  have C1 := hide (Derive_any n hn t htt)
  have C2 := hide (refDerive_any n hn t htt)
  have HE : Hid (∀ w, (Op.equalIn 10000 29 (.agg (nums .u8 (derive n t)).toArray) (.agg (nums .u8 (derive n t)).toArray)).run Tryd.prog w = .ok true w) := by
    intro w
    have := eq_bytes (P := Tryd.prog) Tryd.underlying29 Tryd.underlying5 (fun w => by kernel_rfl) (derive n t) (derive n t) (derive_length n t) (derive_length n t) (derive_lt n t) (derive_lt n t) w
    rw [this]; simp
  revert C1 C2 HE
  generalize derive n t = de
  intro C1 C2 HE
  clear w0 w1 ht
  go_enter Tryd.func6, Tryd.ntmps6
  go_wp2_with fail
  refine (awake5 _ HT.out).mono ?_
  rintro e w1 ⟨rfl, o1⟩
  go_wp2_with fail
  refine (C1.out _ (HT.out.mono o1)).mono ?_
  rintro e w2 ⟨rfl, o2⟩
  have O2 := o1.trans o2
  clear o1 o2
  go_wp2_with fail
  refine (C2.out _).mono ?_
  rintro e w3 ⟨rfl, o3⟩
  have O3 := O2.trans o3
  clear O2 o3
  go_wp2_with (refine wp_eq_whole_g rfl 29 _ _ _ rfl (nums .u8 de).toArray (nums .u8 de).toArray rfl rfl (by kernel_rfl) true (HE.out _) ?_)
  go_ret
  exact ⟨rfl, O3⟩

set_option maxHeartbeats 2000000 in
theorem walk_StreamVectors (v0 v1 v2 : Value) (w : World) (w0 : IsArr .u8 256 32 v0) (w1 : IsInt .u32 v1) (w2 : IsInt .i64 v2) (ht : QTab w) :
    Calls Tryd.prog 5 #[v0, v1, v2] w fun e w' => e = .returned (.bool true) ∧ Old w w' := by
  obtain ⟨s, rfl, hl, hb⟩ := w0
  obtain ⟨t, htt, rfl⟩ := is32 w1
  obtain ⟨n, -, -, rfl⟩ := isI64 w2
  have HT := hide ht
  have C1 := hide (Vector_any s hl hb t htt n)
  have C2 := hide (refVector_any s hl hb t htt n)
  have HI : Hid ((Tryd.prog.info? 22).map (·.size) = some (nums .u8 s).length) := info_k' hl
  have S0 := hide (KB.start w s 22)
  have km := hide (kept_le n 256)
  have VL := hide (svec_length s t (kept n 256))
  revert C1 C2 km VL
  generalize kept n 256 = m
  generalize svec s t m = vs
  intro C1 C2 km VL
  clear w1 w2 ht hl hb htt
  go_enter Tryd.func5, Tryd.ntmps5
  go_wp2_with fail
  obtain ⟨W0, hW0⟩ : ∃ W, W = w.alloc (.cells (nums .u8 s).toArray 22) := ⟨_, rfl⟩
  have S1 := S0.out
  rw [← hW0] at S1 ⊢
  replace S1 : KB w s (W0.drewN 1) := S1.mono ((Old.refl W0).drewN 1)
  clear S0 hW0
  refine Ssx.region (Ext := Old) (KB w s) [7, 8, 9, 10, 11, 12, 13, 14, 15, 16, 17, 18, 6]
    [(7, Ssx.cst (.bool true)), (8, Ssx.cst (.bool true)), (9, Ssx.cst (.agg (nums .u8 s).toArray)), (10, Ssx.nat .u32 t), (11, Ssx.cst (.int .i64 n)), (12, fresh w.heap.size .u32 23 m vs),
     (13, Ssx.cst (.agg (nums .u8 s).toArray)), (14, Ssx.nat .u32 t), (15, Ssx.cst (.int .i64 n)), (16, fresh w.heap.size .u32 23 m vs), (17, Ssx.cst (.bool true)), (18, Ssx.cst (.bool true)), (6, Ssx.cst (.bool true))]
    [(8, true)] (by kernel_rfl) (by kernel_rfl) (by kernel_rfl) (by kernel_rfl) ?told (by kernel_rfl) (by kernel_rfl) (by kernel_rfl) S1 ?good ?behind
  case told =>
    intro t b ht v w' h
    simp only [List.mem_singleton, Prod.mk.injEq] at ht
    obtain ⟨rfl, rfl⟩ := ht
    exact h
  case good =>
    refine ⟨?_, Ssx.mv Old.refl rfl rfl (fun _ _ h => h), Ssx.whole Old.refl rfl rfl w.heap.size (nums .u8 s) (fun _ _ h => h) (fun _ h => h.k) Tryd.underlying22 rfl HI.out (fun _ => rfl), Ssx.mv Old.refl rfl rfl (fun _ _ h => h), Ssx.mv Old.refl rfl rfl (fun _ _ h => h), ?_,
      Ssx.whole Old.refl rfl rfl w.heap.size (nums .u8 s) (fun _ _ h => h) (fun _ h => h.k) Tryd.underlying22 rfl HI.out (fun _ => rfl), Ssx.mv Old.refl rfl rfl (fun _ _ h => h), Ssx.mv Old.refl rfl rfl (fun _ _ h => h), ?_, ?_, Ssx.and Old.refl rfl rfl (fun _ _ h => h) (fun _ _ h => h), Ssx.asg Old.refl rfl rfl (fun _ _ h => h), trivial⟩
    · refine Ssx.call rfl fun a w' hC hop => ⟨8, #[], ?_, ?_⟩
      · simp [go_sem]
      · exact (awake5 w' (HT.out.mono hC.old)).mono fun _ _ ⟨h1, h2⟩ => ⟨_, h1, hC.mono h2, h2, rfl⟩
    · refine Ssx.call rfl fun a w' hC hop => ⟨13, #[.agg (nums .u8 s).toArray, .int .u32 (t : Nat), .int .i64 n], ?_, ?_⟩
      · have h1 : a.eval (.tmp 9) = .agg (nums .u8 s).toArray := hop 9 (by simp [Op.operands, Call.operands])
        have h2 : a.eval (.tmp 10) = .int .u32 (t : Nat) := hop 10 (by simp [Op.operands, Call.operands])
        have h3 : a.eval (.tmp 11) = .int .i64 n := hop 11 (by simp [Op.operands, Call.operands])
        simp [Act.eval] at h1 h2 h3
        simp [h1, h2, h3, go_sem]
      · exact (C1.out w' (HT.out.mono hC.old)).mono fun _ _ ⟨g, h0, h1, h2, h3⟩ => ⟨_, h1, hC.mono h3, h3, ⟨g, Nat.le_trans hC.old.size h0, rfl, h2⟩⟩
    · refine Ssx.call rfl fun a w' hC hop => ⟨15, #[.agg (nums .u8 s).toArray, .int .u32 (t : Nat), .int .i64 n], ?_, ?_⟩
      · have h1 : a.eval (.tmp 13) = .agg (nums .u8 s).toArray := hop 13 (by simp [Op.operands, Call.operands])
        have h2 : a.eval (.tmp 14) = .int .u32 (t : Nat) := hop 14 (by simp [Op.operands, Call.operands])
        have h3 : a.eval (.tmp 15) = .int .i64 n := hop 15 (by simp [Op.operands, Call.operands])
        simp [Act.eval] at h1 h2 h3
        simp [h1, h2, h3, go_sem]
      · exact (C2.out w').mono fun _ _ ⟨g, h0, h1, h2, h3⟩ => ⟨_, h1, hC.mono h3, h3, ⟨g, Nat.le_trans hC.old.size h0, rfl, h2⟩⟩
    · refine Ssx.call rfl fun a w' hC hop => ?_
      obtain ⟨b1, -, h1, r1⟩ : (fresh w.heap.size .u32 23 m vs).p (a.eval (.tmp 12)) w' := hop 12 (by simp [Op.operands, Call.operands])
      obtain ⟨b2, -, h2, r2⟩ : (fresh w.heap.size .u32 23 m vs).p (a.eval (.tmp 16)) w' := hop 16 (by simp [Op.operands, Call.operands])
      refine ⟨14, #[.slice (some ⟨b1, 0, none⟩) m m, .slice (some ⟨b2, 0, none⟩) m m], ?_, ?_⟩
      · simp [Act.eval] at h1 h2
        simp [h1, h2, go_sem]
      · have := km.out
        refine (R1.Cells_any m m vs vs _ _ m m w' (by omega) VL.out VL.out r1.rd r2.rd).mono fun _ _ ⟨h1, h2⟩ => ⟨_, h1, hC.mono h2, h2, ?_⟩
        show Value.bool _ = Value.bool true
        simp
  case behind =>
    intro vals w' hC hv
    have h6 : vals 6 = .bool true := hv _ (.tail _ (.tail _ (.tail _ (.tail _ (.tail _ (.tail _ (.tail _ (.tail _ (.tail _ (.tail _ (.tail _ (.tail _ (.head _)))))))))))))
    have hol := hC.old
    clear hC hv
    simp only [Ssa.putAll, List.map_cons, List.map_nil, List.foldl_cons, List.foldl_nil, List.setIfInBounds_toArray, List.set_cons_succ, List.set_cons_zero]
    rename_i Q0 K0 hK
    refine hK _ w' ?_
    clear hK
    rw [h6]
    go_wp2
    go_ret
    exact ⟨rfl, hol⟩
end Go.Proofs.YtnmdpjedchaajaaDoor
