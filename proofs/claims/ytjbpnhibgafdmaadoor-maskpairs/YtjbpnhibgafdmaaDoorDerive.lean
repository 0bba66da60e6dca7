/-
  stream.Derive and the document's: a number's seed.
-/
import Derived.Test.YtjbpnhibgafdmaaDoorVector
namespace Go.Proofs.YtjbpnhibgafdmaaDoor
open Go.RowKit Cha
set_option linter.unusedVariables false

/-- The blocks of Derive: the result, the first seed, the second, the number's bytes. -/
structure DB (w : World) (g : Nat) (low fr to : List Nat) (wr : World) : Prop where
  r : Row wr w.heap.size 32 (nums .u8 (List.replicate 32 0))
  f : Row wr (w.heap.size + 1) 32 (nums .u8 fr)
  t : Row wr (w.heap.size + 1 + 1) 32 (nums .u8 to)
  b : Row wr g 70 (nums .u8 low)
  old : Old w wr
theorem DB.mono {w wr w' : World} {g : Nat} {low fr to : List Nat} (h : DB w g low fr to wr) (o : Old wr w') : DB w g low fr to w' :=
  ⟨h.r.mono o, h.f.mono o, h.t.mono o, h.b.mono o, h.old.trans o⟩
theorem DB.setF {w wr : World} {g : Nat} {low fr to : List Nat} (h : DB w g low fr to wr) (hg : w.heap.size + 1 + 1 < g) (zs : List Nat) : DB w g low zs to (wr.setRow (w.heap.size + 1) (nums .u8 zs).toArray) :=
  ⟨h.r.grown (grown_setRow _ _ _) (by omega), h.f.whole _, h.t.grown (grown_setRow _ _ _) (by omega), h.b.grown (grown_setRow _ _ _) (by omega), h.old.grown (grown_setRow _ _ _) (by omega)⟩
theorem DB.setT {w wr : World} {g : Nat} {low fr to : List Nat} (h : DB w g low fr to wr) (hg : w.heap.size + 1 + 1 < g) (zs : List Nat) : DB w g low fr zs (wr.setRow (w.heap.size + 1 + 1) (nums .u8 zs).toArray) :=
  ⟨h.r.grown (grown_setRow _ _ _) (by omega), h.f.grown (grown_setRow _ _ _) (by omega), h.t.whole _, h.b.grown (grown_setRow _ _ _) (by omega), h.old.grown (grown_setRow _ _ _) (by omega)⟩
theorem three_zeros (w : World) (T : TypeId) (vs : List Value) : Row (((w.alloc (.cells vs.toArray T)).alloc (.cells vs.toArray T)).alloc (.cells vs.toArray T)) w.heap.size T vs ∧
    Row (((w.alloc (.cells vs.toArray T)).alloc (.cells vs.toArray T)).alloc (.cells vs.toArray T)) (w.heap.size + 1) T vs ∧
    Row (((w.alloc (.cells vs.toArray T)).alloc (.cells vs.toArray T)).alloc (.cells vs.toArray T)) (w.heap.size + 1 + 1) T vs ∧
    Old w (((w.alloc (.cells vs.toArray T)).alloc (.cells vs.toArray T)).alloc (.cells vs.toArray T)) := by
  have K2 := Row.new (w.alloc (.cells vs.toArray T)) T vs
  rw [size_alloc] at K2
  have K3 := Row.new ((w.alloc (.cells vs.toArray T)).alloc (.cells vs.toArray T)) T vs
  rw [size_alloc, size_alloc] at K3
  exact ⟨((Row.new _ _ _).mono (Old.of_alloc _ _)).mono (Old.of_alloc _ _), K2.mono (Old.of_alloc _ _), K3, ((Old.of_alloc _ _).alloc _).alloc _⟩

set_option maxRecDepth 100000 in
set_option maxHeartbeats 2000000 in
theorem Derive_any (n : Nat) (hn : n < 18446744073709551616) (t : Nat) (ht : t < 4294967296) (w : World) (q : QTab w) :
    Calls Tryd.prog 24 #[.int .u64 (n : Nat), .int .u32 (t : Nat)] w fun e w' => e = .returned (.agg (nums .u8 (derive n t)).toArray) ∧ Old w w' := by
  have HT := hide ht
  have HQ := hide q
  have K0 := hide (three_zeros w 32 (nums .u8 (List.replicate 32 0)))
  have C1 := hide (lowestFirst_any n hn)
  have C2 : Hid (∀ w, QTab w → Calls Tryd.prog 37 #[.agg (nums .u8 (seedOf n)).toArray, .int .u32 (t : Nat), .int .i64 32] w fun e w' =>
      ∃ g, w.heap.size ≤ g ∧ e = .returned (.slice (some ⟨g, 0, none⟩) 32 32) ∧ Row w' g 5 (nums .u8 (derive n t)) ∧ Old w w') := BytesAt (seedOf n) (seedOf_length n) (seedOf_lt n) t ht 32 (by omega) 32 rfl
  have FL := hide (seedOf_length n)
  have DL := hide (derive_length n t)
  have LL := hide (lo8_length n)
  have SE : Hid (lo8 n ++ List.replicate 24 0 = seedOf n) := rfl
  revert C2 FL DL SE LL C1
  generalize seedOf n = sd
  generalize derive n t = de
  generalize lo8 n = lo
  intro C1 C2 FL DL LL SE
  clear ht q hn
  go_enter Tryd.func24, Tryd.ntmps24
  go_wp2_with fail
  refine (C1.out _).mono ?_
  rintro e w1 ⟨rfl, o1⟩
  have M1 := K0.out.1.mono o1
  have M2 := K0.out.2.1.mono o1
  have M3 := K0.out.2.2.1.mono o1
  have O1 := K0.out.2.2.2.trans o1
  clear K0 o1 C1
  have Z1 : Hid (Row (w1.alloc (.cells (nums .u8 (List.replicate 8 0)).toArray 70)) w1.heap.size 70 (nums .u8 (List.replicate 8 0))) := Row.new _ _ _
  have l1 := hide M3.lt
  go_wp2_with (first
    | (refine wp_store_whole rfl 70 _ _ rfl w1.heap.size rfl (nums .u8 lo) rfl Z1.out (info_8 LL.out) (by rw [nums_length, nums_length, LL.out]; rfl) (nums_oneCell _ _) ?_; rintro w2 h2
       have X2 : DB w w1.heap.size lo (List.replicate 32 0) (List.replicate 32 0) w2 := by
         have K2 : Row w2 w1.heap.size 70 (nums .u8 lo) := by rw [h2]; exact Z1.out.whole _
         have o2 : Old w1 w2 := by rw [h2]; exact (Old.of_alloc _ _).grown (grown_setRow _ _ _) (Nat.le_refl _)
         exact ⟨M1.mono o2, M2.mono o2, M3.mono o2, K2, O1.trans o2⟩
       clear h2 Z1 M1 M2 M3 O1))
  refine Ssx.region (Ext := Ssx.Into (w.heap.size + 1) 32 (nums .u8 sd)) (fun w' => ∃ zs, DB w w1.heap.size lo zs (List.replicate 32 0) w' ∧ zs.length = 32 ∧ zs.drop 8 = List.replicate 24 0) [10, 11, 12]
    [(10, Ssx.cst (.slice (some ⟨w.heap.size + 1, 0, none⟩) 32 32)), (11, Ssx.cst (.slice (some ⟨w1.heap.size, 0, none⟩) 8 8)), (12, Ssx.laid _ _ _)]
    [] (by kernel_rfl) (by kernel_rfl) (by kernel_rfl) (by kernel_rfl) (fun _ _ h => by cases h) (by kernel_rfl) (by kernel_rfl) (by kernel_rfl) ⟨_, X2.mono ((Old.refl _).drewN 1), rfl, rfl⟩ ?good ?behind
  case good =>
    refine ⟨Ssx.all (Ssx.Into.refl _ _ _) rfl rfl Tryd.underlying32 size_u8 (w.heap.size + 1) (fun _ _ h => h) (fun _ => rfl), Ssx.all (Ssx.Into.refl _ _ _) rfl rfl Tryd.underlying70 size_u8 w1.heap.size (fun _ _ h => h) (fun _ => rfl), ?_, trivial⟩
    refine Ssx.step rfl fun a w' hC hop => ?_
    obtain ⟨zs, X, hz, hz8⟩ := hC
    have h1 : a.eval (.tmp 10) = .slice (some ⟨w.heap.size + 1, 0, none⟩) 32 32 := hop 10 (by simp [Op.operands, Call.operands])
    have h2 : a.eval (.tmp 11) = .slice (some ⟨w1.heap.size, 0, none⟩) 8 8 := hop 11 (by simp [Op.operands, Call.operands])
    have hrun := Ssx.run_into (P := Tryd.prog) (dT := 67) (sT := 67) (ty := 3) Tryd.underlying67 size_u8 (cap := 32) (cap' := 8) X.f hz LL.out (by omega) (by omega) X.b.rd
    rw [hz8, SE.out] at hrun
    have hx := X.setF l1.out sd
    have hd8 : sd.drop 8 = List.replicate 24 0 := by rw [← SE.out, List.drop_append_of_le_length (by rw [LL.out]; omega), List.drop_eq_nil_of_le (by rw [LL.out]; omega), List.nil_append]
    refine ⟨goInt 8, _, ?_, ⟨_, hx, FL.out, hd8⟩, ⟨grown_setRow _ _ _, fun _ => hx.f⟩, hx.f⟩
    simp [Act.eval] at h1 h2
    simp [h1, h2, hrun, go_sem]
  case behind =>
    intro vals w3 hC hv
    have R3 : Row w3 (w.heap.size + 1) 32 (nums .u8 sd) := hv _ (.tail _ (.tail _ (.head _)))
    have X3 : DB w w1.heap.size lo sd (List.replicate 32 0) w3 := by
      obtain ⟨zs, X, -, -⟩ := hC
      exact ⟨X.r, R3, X.t, X.b, X.old⟩
    clear hC hv R3 X2
    simp only [Ssa.putAll, Act.put, List.map_cons, List.map_nil, List.foldl_cons, List.foldl_nil, List.setIfInBounds_toArray, List.set_cons_succ, List.set_cons_zero]
    generalize vals 10 = x10
    generalize vals 11 = x11
    generalize vals 12 = x12
    rename_i Q0 K0 hK
    refine hK _ w3 ?_
    clear hK
    go_wp2_with fail
    refine Ssx.region (Ext := Ssx.Into (w.heap.size + 1 + 1) 32 (nums .u8 de)) (fun w' => ∃ zs, DB w w1.heap.size lo sd zs w' ∧ zs.length = 32) [13, 14, 15, 16, 17]
      [(13, Ssx.cst (.slice (some ⟨w.heap.size + 1 + 1, 0, none⟩) 32 32)), (14, Ssx.cst (.agg (nums .u8 sd).toArray)), (15, Ssx.nat .u32 t), (16, Ssx.other _ _ _ .u8 32 de), (17, Ssx.laid _ _ _)]
      [] (by kernel_rfl) (by kernel_rfl) (by kernel_rfl) (by kernel_rfl) (fun _ _ h => by cases h) (by kernel_rfl) (by kernel_rfl) (by kernel_rfl) ⟨_, X3.mono ((Old.refl _).drewN 1), rfl⟩ ?good2 ?behind2
    case good2 =>
      refine ⟨Ssx.all (Ssx.Into.refl _ _ _) rfl rfl Tryd.underlying32 size_u8 (w.heap.size + 1 + 1) (fun _ _ h => h) (fun _ => rfl), Ssx.whole (Ssx.Into.refl _ _ _) rfl rfl (w.heap.size + 1) (nums .u8 sd) (fun _ _ h => h) (fun _ ⟨_, h, _⟩ => h.f.range) Tryd.underlying32 rfl (info_k FL.out) (fun _ => rfl), Ssx.mv (Ssx.Into.refl _ _ _) rfl rfl (fun _ _ h => h), ?_, ?_, trivial⟩
      · refine Ssx.call rfl fun a w' hC hop => ⟨37, #[.agg (nums .u8 sd).toArray, .int .u32 (t : Nat), .int .i64 32], ?_, ?_⟩
        · have h1 : a.eval (.tmp 14) = .agg (nums .u8 sd).toArray := hop 14 (by simp [Op.operands, Call.operands])
          have h2 : a.eval (.tmp 15) = .int .u32 (t : Nat) := hop 15 (by simp [Op.operands, Call.operands])
          simp [Act.eval] at h1 h2
          simp [h1, h2, go_sem]
        · obtain ⟨zs, X, hz⟩ := hC
          refine (C2.out w' (HQ.out.mono X.old)).mono fun _ _ ⟨g, h0, h1, h2, h3⟩ => ⟨_, h1, ⟨zs, X.mono h3, hz⟩, Ssx.Into.of_old h3, g, ?_, rfl, h2.rd⟩
          have := X.t.lt
          omega
      · refine Ssx.step rfl fun a w' hC hop => ?_
        obtain ⟨zs, X, hz⟩ := hC
        have h1 : a.eval (.tmp 13) = .slice (some ⟨w.heap.size + 1 + 1, 0, none⟩) 32 32 := hop 13 (by simp [Op.operands, Call.operands])
        obtain ⟨b, -, h2, hrd⟩ : (Ssx.other (w.heap.size + 1 + 1) 32 (nums .u8 de) .u8 32 de).p (a.eval (.tmp 16)) w' := hop 16 (by simp [Op.operands, Call.operands])
        have hrun := Ssx.run_into (P := Tryd.prog) (dT := 67) (sT := 67) (ty := 3) Tryd.underlying67 size_u8 (cap := 32) (cap' := 32) X.t hz DL.out (by omega) (by omega) hrd
        rw [List.drop_eq_nil_of_le (by rw [hz]; omega), List.append_nil] at hrun
        have hx := X.setT l1.out de
        refine ⟨goInt 32, _, ?_, ⟨_, hx, DL.out⟩, ⟨grown_setRow _ _ _, fun _ => hx.t⟩, hx.t⟩
        simp [Act.eval] at h1 h2
        simp [h1, h2, hrun, go_sem]
    case behind2 =>
      intro vals w4 hC hv
      have R3 : Row w4 (w.heap.size + 1 + 1) 32 (nums .u8 de) := hv _ (.tail _ (.tail _ (.tail _ (.tail _ (.head _)))))
      obtain ⟨zs, X, -⟩ := hC
      have R2 := X.r
      have hol := X.old
      clear X X3 hv
      simp only [Ssa.putAll, List.map_cons, List.map_nil, List.foldl_cons, List.foldl_nil, List.setIfInBounds_toArray, List.set_cons_succ, List.set_cons_zero]
      generalize vals 13 = x13
      generalize vals 14 = x14
      generalize vals 15 = x15
      generalize vals 16 = x16
      generalize vals 17 = x17
      rename_i Q1 K1 hK
      refine hK _ w4 ?_
      clear hK
      have HL : Hid ((nums .u8 (List.replicate 32 0)).length = (nums .u8 de).length) := by
        show _ = _
        rw [nums_length, nums_length, DL.out]; rfl
      go_wp2_with (first
        | refine wp_load_whole rfl 32 _ rfl (w.heap.size + 1 + 1) rfl R3 Tryd.underlying32 rfl (info_k DL.out) ?_
        | (refine wp_store_whole rfl 32 _ _ rfl w.heap.size rfl (nums .u8 de) rfl R2 (info_k DL.out) HL.out (nums_oneCell _ _) ?_; rintro w9 h9))
      have K9 : Row w9 w.heap.size 32 (nums .u8 de) := by rw [h9]; exact R2.whole _
      have O9 : Old w w9 := by rw [h9]; exact hol.grown (grown_setRow _ _ _) (by omega)
      exact bodyPost_ret (v := .agg (nums .u8 de).toArray) (results_whole rfl rfl K9 Tryd.underlying32 rfl (info_k DL.out)) rfl ⟨rfl, O9⟩
end Go.Proofs.YtjbpnhibgafdmaaDoor
