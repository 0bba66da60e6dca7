/-
  MgDer: 2 parts, one behind the other; what each proves, and under which conditions, its own heading says.
-/
import Derived.Test.YtjbpnhibgafdmaaDoorMgVec

/-
  stream.Derive and the document's: a number's seed.
-/
namespace Go.Proofs.YtjbpnhibgafdmaaDoor
open Go.RowKit Cha
set_option linter.unusedVariables false

/-- The blocks of Derive: the result, the first seed, the second, the number's bytes. -/
structure DB (w : World) (g : Nat) (low fr to : List Nat) (wr : World) : Prop where
  r : Row wr w.heap.size 32 (nums .u8 (List.replicate 32 0))
  f : Row wr (w.heap.size + 1) 32 (nums .u8 fr)
  t : Row wr (w.heap.size + 1 + 1) 32 (nums .u8 to)
  b : Row wr g 70 (nums .u8 low)
  old : Old w wr
theorem DB.mono {w wr w' : World} {g : Nat} {low fr to : List Nat} (h : DB w g low fr to wr) (o : Old wr w') : DB w g low fr to w' :=
  ⟨h.r.mono o, h.f.mono o, h.t.mono o, h.b.mono o, h.old.trans o⟩
theorem DB.setF {w wr : World} {g : Nat} {low fr to : List Nat} (h : DB w g low fr to wr) (hg : w.heap.size + 1 + 1 < g) (zs : List Nat) : DB w g low zs to (wr.setRow (w.heap.size + 1) (nums .u8 zs).toArray) :=
  ⟨h.r.grown (grown_setRow _ _ _) (by omega), h.f.whole _, h.t.grown (grown_setRow _ _ _) (by omega), h.b.grown (grown_setRow _ _ _) (by omega), h.old.grown (grown_setRow _ _ _) (by omega)⟩
theorem DB.setT {w wr : World} {g : Nat} {low fr to : List Nat} (h : DB w g low fr to wr) (hg : w.heap.size + 1 + 1 < g) (zs : List Nat) : DB w g low fr zs (wr.setRow (w.heap.size + 1 + 1) (nums .u8 zs).toArray) :=
  ⟨h.r.grown (grown_setRow _ _ _) (by omega), h.f.grown (grown_setRow _ _ _) (by omega), h.t.whole _, h.b.grown (grown_setRow _ _ _) (by omega), h.old.grown (grown_setRow _ _ _) (by omega)⟩
theorem three_zeros (w : World) (T : TypeId) (vs : List Value) : Row (((w.alloc (.cells vs.toArray T)).alloc (.cells vs.toArray T)).alloc (.cells vs.toArray T)) w.heap.size T vs ∧
    Row (((w.alloc (.cells vs.toArray T)).alloc (.cells vs.toArray T)).alloc (.cells vs.toArray T)) (w.heap.size + 1) T vs ∧
    Row (((w.alloc (.cells vs.toArray T)).alloc (.cells vs.toArray T)).alloc (.cells vs.toArray T)) (w.heap.size + 1 + 1) T vs ∧
    Old w (((w.alloc (.cells vs.toArray T)).alloc (.cells vs.toArray T)).alloc (.cells vs.toArray T)) := by
  have K2 := Row.new (w.alloc (.cells vs.toArray T)) T vs
  rw [size_alloc] at K2
  have K3 := Row.new ((w.alloc (.cells vs.toArray T)).alloc (.cells vs.toArray T)) T vs
  rw [size_alloc, size_alloc] at K3
  exact ⟨((Row.new _ _ _).mono (Old.of_alloc _ _)).mono (Old.of_alloc _ _), K2.mono (Old.of_alloc _ _), K3, ((Old.of_alloc _ _).alloc _).alloc _⟩

set_option maxRecDepth 100000 in
set_option maxHeartbeats 2000000 in
theorem Derive_any (n : Nat) (hn : n < 18446744073709551616) (t : Nat) (ht : t < 4294967296) (w : World) (q : QTab w) :
    Calls Tryd.prog 24 #[.int .u64 (n : Nat), .int .u32 (t : Nat)] w fun e w' => e = .returned (.agg (nums .u8 (derive n t)).toArray) ∧ Old w w' := by
  have HT := hide ht
  have HQ := hide q
  have K0 := hide (three_zeros w 32 (nums .u8 (List.replicate 32 0)))
  have C1 := hide (lowestFirst_any n hn)
  have C2 : Hid (∀ w, QTab w → Calls Tryd.prog 37 #[.agg (nums .u8 (seedOf n)).toArray, .int .u32 (t : Nat), .int .i64 32] w fun e w' =>
      ∃ g, w.heap.size ≤ g ∧ e = .returned (.slice (some ⟨g, 0, none⟩) 32 32) ∧ Row w' g 5 (nums .u8 (derive n t)) ∧ Old w w') := BytesAt (seedOf n) (seedOf_length n) (seedOf_lt n) t ht 32 (by omega) 32 rfl
  have FL := hide (seedOf_length n)
  have DL := hide (derive_length n t)
  have LL := hide (lo8_length n)
  have SE : Hid (lo8 n ++ List.replicate 24 0 = seedOf n) := rfl
  revert C2 FL DL SE LL C1
  generalize seedOf n = sd
  generalize derive n t = de
  generalize lo8 n = lo
  intro C1 C2 FL DL LL SE
  clear ht q hn
  go_enter Tryd.func24, Tryd.ntmps24
  go_wp2_with fail
  refine (C1.out _).mono ?_
  rintro e w1 ⟨rfl, o1⟩
  have M1 := K0.out.1.mono o1
  have M2 := K0.out.2.1.mono o1
  have M3 := K0.out.2.2.1.mono o1
  have O1 := K0.out.2.2.2.trans o1
  clear K0 o1 C1
  have Z1 : Hid (Row (w1.alloc (.cells (nums .u8 (List.replicate 8 0)).toArray 70)) w1.heap.size 70 (nums .u8 (List.replicate 8 0))) := Row.new _ _ _
  have l1 := hide M3.lt
  go_wp2_with (first
    | (refine wp_store_whole rfl 70 _ _ rfl w1.heap.size rfl (nums .u8 lo) rfl Z1.out (info_8 LL.out) (by rw [nums_length, nums_length, LL.out]; rfl) (nums_oneCell _ _) ?_; rintro w2 h2
       have X2 : DB w w1.heap.size lo (List.replicate 32 0) (List.replicate 32 0) w2 := by
         have K2 : Row w2 w1.heap.size 70 (nums .u8 lo) := by rw [h2]; exact Z1.out.whole _
         have o2 : Old w1 w2 := by rw [h2]; exact (Old.of_alloc _ _).grown (grown_setRow _ _ _) (Nat.le_refl _)
         exact ⟨M1.mono o2, M2.mono o2, M3.mono o2, K2, O1.trans o2⟩
       clear h2 Z1 M1 M2 M3 O1))
  refine Ssx.region (Ext := Ssx.Into (w.heap.size + 1) 32 (nums .u8 sd)) (fun w' => ∃ zs, DB w w1.heap.size lo zs (List.replicate 32 0) w' ∧ zs.length = 32 ∧ zs.drop 8 = List.replicate 24 0) [10, 11, 12]
    [(10, Ssx.cst (.slice (some ⟨w.heap.size + 1, 0, none⟩) 32 32)), (11, Ssx.cst (.slice (some ⟨w1.heap.size, 0, none⟩) 8 8)), (12, Ssx.laid _ _ _)]
    [] (by kernel_rfl) (by kernel_rfl) (by kernel_rfl) (by kernel_rfl) (fun _ _ h => by cases h) (by kernel_rfl) (by kernel_rfl) (by kernel_rfl) ⟨_, X2.mono ((Old.refl _).drewN 1), rfl, rfl⟩ ?good ?behind
  case good =>
    refine ⟨Ssx.all (Ssx.Into.refl _ _ _) rfl rfl Tryd.underlying32 size_u8 (w.heap.size + 1) (fun _ _ h => h) (fun _ => rfl), Ssx.all (Ssx.Into.refl _ _ _) rfl rfl Tryd.underlying70 size_u8 w1.heap.size (fun _ _ h => h) (fun _ => rfl), ?_, trivial⟩
    refine Ssx.step rfl fun a w' hC hop => ?_
    obtain ⟨zs, X, hz, hz8⟩ := hC
    have h1 : a.eval (.tmp 10) = .slice (some ⟨w.heap.size + 1, 0, none⟩) 32 32 := hop 10 (by simp [Op.operands, Call.operands])
    have h2 : a.eval (.tmp 11) = .slice (some ⟨w1.heap.size, 0, none⟩) 8 8 := hop 11 (by simp [Op.operands, Call.operands])
    have hrun := Ssx.run_into (P := Tryd.prog) (dT := 67) (sT := 67) (ty := 3) Tryd.underlying67 size_u8 (cap := 32) (cap' := 8) X.f hz LL.out (by omega) (by omega) X.b.rd
    rw [hz8, SE.out] at hrun
    have hx := X.setF l1.out sd
    have hd8 : sd.drop 8 = List.replicate 24 0 := by rw [← SE.out, List.drop_append_of_le_length (by rw [LL.out]; omega), List.drop_eq_nil_of_le (by rw [LL.out]; omega), List.nil_append]
    refine ⟨goInt 8, _, ?_, ⟨_, hx, FL.out, hd8⟩, ⟨grown_setRow _ _ _, fun _ => hx.f⟩, hx.f⟩
    simp [Act.eval] at h1 h2
    simp [h1, h2, hrun, go_sem]
  case behind =>
    intro vals w3 hC hv
    have R3 : Row w3 (w.heap.size + 1) 32 (nums .u8 sd) := hv _ (.tail _ (.tail _ (.head _)))
    have X3 : DB w w1.heap.size lo sd (List.replicate 32 0) w3 := by
      obtain ⟨zs, X, -, -⟩ := hC
      exact ⟨X.r, R3, X.t, X.b, X.old⟩
    clear hC hv R3 X2
    simp only [Ssa.putAll, Act.put, List.map_cons, List.map_nil, List.foldl_cons, List.foldl_nil, List.setIfInBounds_toArray, List.set_cons_succ, List.set_cons_zero]
    generalize vals 10 = x10
    generalize vals 11 = x11
    generalize vals 12 = x12
    rename_i Q0 K0 hK
    refine hK _ w3 ?_
    clear hK
    go_wp2_with fail
    refine Ssx.region (Ext := Ssx.Into (w.heap.size + 1 + 1) 32 (nums .u8 de)) (fun w' => ∃ zs, DB w w1.heap.size lo sd zs w' ∧ zs.length = 32) [13, 14, 15, 16, 17]
      [(13, Ssx.cst (.slice (some ⟨w.heap.size + 1 + 1, 0, none⟩) 32 32)), (14, Ssx.cst (.agg (nums .u8 sd).toArray)), (15, Ssx.nat .u32 t), (16, Ssx.other _ _ _ .u8 32 de), (17, Ssx.laid _ _ _)]
      [] (by kernel_rfl) (by kernel_rfl) (by kernel_rfl) (by kernel_rfl) (fun _ _ h => by cases h) (by kernel_rfl) (by kernel_rfl) (by kernel_rfl) ⟨_, X3.mono ((Old.refl _).drewN 1), rfl⟩ ?good2 ?behind2
    case good2 =>
      refine ⟨Ssx.all (Ssx.Into.refl _ _ _) rfl rfl Tryd.underlying32 size_u8 (w.heap.size + 1 + 1) (fun _ _ h => h) (fun _ => rfl), Ssx.whole (Ssx.Into.refl _ _ _) rfl rfl (w.heap.size + 1) (nums .u8 sd) (fun _ _ h => h) (fun _ ⟨_, h, _⟩ => h.f.range) Tryd.underlying32 rfl (info_k FL.out) (fun _ => rfl), Ssx.mv (Ssx.Into.refl _ _ _) rfl rfl (fun _ _ h => h), ?_, ?_, trivial⟩
      · refine Ssx.call rfl fun a w' hC hop => ⟨37, #[.agg (nums .u8 sd).toArray, .int .u32 (t : Nat), .int .i64 32], ?_, ?_⟩
        · have h1 : a.eval (.tmp 14) = .agg (nums .u8 sd).toArray := hop 14 (by simp [Op.operands, Call.operands])
          have h2 : a.eval (.tmp 15) = .int .u32 (t : Nat) := hop 15 (by simp [Op.operands, Call.operands])
          simp [Act.eval] at h1 h2
          simp [h1, h2, go_sem]
        · obtain ⟨zs, X, hz⟩ := hC
          refine (C2.out w' (HQ.out.mono X.old)).mono fun _ _ ⟨g, h0, h1, h2, h3⟩ => ⟨_, h1, ⟨zs, X.mono h3, hz⟩, Ssx.Into.of_old h3, g, ?_, rfl, h2.rd⟩
          have := X.t.lt
          omega
      · refine Ssx.step rfl fun a w' hC hop => ?_
        obtain ⟨zs, X, hz⟩ := hC
        have h1 : a.eval (.tmp 13) = .slice (some ⟨w.heap.size + 1 + 1, 0, none⟩) 32 32 := hop 13 (by simp [Op.operands, Call.operands])
        obtain ⟨b, -, h2, hrd⟩ : (Ssx.other (w.heap.size + 1 + 1) 32 (nums .u8 de) .u8 32 de).p (a.eval (.tmp 16)) w' := hop 16 (by simp [Op.operands, Call.operands])
        have hrun := Ssx.run_into (P := Tryd.prog) (dT := 67) (sT := 67) (ty := 3) Tryd.underlying67 size_u8 (cap := 32) (cap' := 32) X.t hz DL.out (by omega) (by omega) hrd
        rw [List.drop_eq_nil_of_le (by rw [hz]; omega), List.append_nil] at hrun
        have hx := X.setT l1.out de
        refine ⟨goInt 32, _, ?_, ⟨_, hx, DL.out⟩, ⟨grown_setRow _ _ _, fun _ => hx.t⟩, hx.t⟩
        simp [Act.eval] at h1 h2
        simp [h1, h2, hrun, go_sem]
    case behind2 =>
      intro vals w4 hC hv
      have R3 : Row w4 (w.heap.size + 1 + 1) 32 (nums .u8 de) := hv _ (.tail _ (.tail _ (.tail _ (.tail _ (.head _)))))
      obtain ⟨zs, X, -⟩ := hC
      have R2 := X.r
      have hol := X.old
      clear X X3 hv
      simp only [Ssa.putAll, List.map_cons, List.map_nil, List.foldl_cons, List.foldl_nil, List.setIfInBounds_toArray, List.set_cons_succ, List.set_cons_zero]
      generalize vals 13 = x13
      generalize vals 14 = x14
      generalize vals 15 = x15
      generalize vals 16 = x16
      generalize vals 17 = x17
      rename_i Q1 K1 hK
      refine hK _ w4 ?_
      clear hK
      have HL : Hid ((nums .u8 (List.replicate 32 0)).length = (nums .u8 de).length) := by
        show _ = _
        rw [nums_length, nums_length, DL.out]; rfl
      go_wp2_with (first
        | refine wp_load_whole rfl 32 _ rfl (w.heap.size + 1 + 1) rfl R3 Tryd.underlying32 rfl (info_k DL.out) ?_
        | (refine wp_store_whole rfl 32 _ _ rfl w.heap.size rfl (nums .u8 de) rfl R2 (info_k DL.out) HL.out (nums_oneCell _ _) ?_; rintro w9 h9))
      have K9 : Row w9 w.heap.size 32 (nums .u8 de) := by rw [h9]; exact R2.whole _
      have O9 : Old w w9 := by rw [h9]; exact hol.grown (grown_setRow _ _ _) (by omega)
      exact bodyPost_ret (v := .agg (nums .u8 de).toArray) (results_whole rfl rfl K9 Tryd.underlying32 rfl (info_k DL.out)) rfl ⟨rfl, O9⟩
end Go.Proofs.YtjbpnhibgafdmaaDoor

/-
  offertoryref04.Derive: the document's seed of a number.
-/
namespace Go.Proofs.YtjbpnhibgafdmaaDoor
open Go.RowKit Cha
set_option linter.unusedVariables false

/-- The seed with its first k bytes laid. -/
def seedPart (n k : Nat) : List Nat := partF 8 (lowB n) k ++ List.replicate 24 0
theorem seedPart_length (n k : Nat) : (seedPart n k).length = 32 := by rw [seedPart, List.length_append, partF_length, List.length_replicate]
theorem seedPart_zero (n : Nat) : seedPart n 0 = List.replicate 32 0 := by rw [seedPart, partF_zero]; rfl
theorem seedPart_all (n : Nat) : seedPart n 8 = seedOf n := by rw [seedPart, partF_all]; rfl
theorem seedPart_step (n k : Nat) (hk : k < 8) : (seedPart n k).set k (lowB n k) = seedPart n (k + 1) := by
  rw [seedPart, List.set_append_left _ _ (by rw [partF_length]; exact hk), partF_step _ _ k hk]; rfl
theorem range_at (l : List Nat) (n : Nat) (h : l.length = n) : (List.range n).map (at_ l) = l := by
  apply List.ext_getElem?
  intro i
  by_cases hi : i < n
  · have : i < l.length := by omega
    simp [hi, at_, this]
  · simp [hi]
    omega
theorem two_32 (w : World) : Row ((w.alloc (.cells (nums .u8 (List.replicate 32 0)).toArray 22)).alloc (.cells (nums .u8 (List.replicate 32 0)).toArray 22)) w.heap.size 22 (nums .u8 (List.replicate 32 0)) ∧
    Row ((w.alloc (.cells (nums .u8 (List.replicate 32 0)).toArray 22)).alloc (.cells (nums .u8 (List.replicate 32 0)).toArray 22)) (w.heap.size + 1) 22 (nums .u8 (List.replicate 32 0)) ∧
    Old w ((w.alloc (.cells (nums .u8 (List.replicate 32 0)).toArray 22)).alloc (.cells (nums .u8 (List.replicate 32 0)).toArray 22)) := by
  have K2 := Row.new (w.alloc (.cells (nums .u8 (List.replicate 32 0)).toArray 22)) 22 (nums .u8 (List.replicate 32 0))
  rw [size_alloc] at K2
  exact ⟨(Row.new _ _ _).mono (Old.of_alloc _ _), K2, (Old.of_alloc _ _).alloc _⟩

set_option maxRecDepth 100000 in
set_option maxHeartbeats 2000000 in
theorem refDerive_any (n : Nat) (hn : n < 18446744073709551616) (t : Nat) (ht : t < 4294967296) (w : World) :
    Calls Tryd.prog 26 #[.int .u64 (n : Nat), .int .u32 (t : Nat)] w fun e w' => e = .returned (.agg (nums .u8 (derive n t)).toArray) ∧ Old w w' := by
  have K0 := hide (two_32 w)
  have C2 : Hid (∀ w, Calls Tryd.prog 40 #[.agg (nums .u8 (seedOf n)).toArray, .int .u32 (t : Nat), .int .i64 32] w fun e w' =>
      ∃ g, w.heap.size ≤ g ∧ e = .returned (.slice (some ⟨g, 0, none⟩) 32 32) ∧ Row w' g 5 (nums .u8 (derive n t)) ∧ Old w w') := refBytesAt (seedOf n) (seedOf_length n) (seedOf_lt n) t ht 32 (by omega) 32 rfl
  have FL := hide (seedOf_length n)
  have SA := hide (seedPart_all n)
  have DL := hide (derive_length n t)
  revert C2 FL DL SA
  generalize seedOf n = sd
  generalize derive n t = de
  intro C2 FL SA DL
  go_enter Tryd.func26, Tryd.ntmps26
  go_wp2_with (first
    | (refine wp_store_whole rfl 22 _ _ rfl (w.heap.size + 1) rfl (nums .u8 (List.replicate 32 0)) rfl K0.out.2.1 (info_k' (by rw [List.length_replicate])) rfl (nums_oneCell _ _) ?_; rintro w1 h1
       have R1 : Row w1 w.heap.size 22 (nums .u8 (List.replicate 32 0)) := by rw [h1]; exact K0.out.1.grown (grown_setRow _ _ _) (by omega)
       have R2 : Row w1 (w.heap.size + 1) 22 (nums .u8 (seedPart n 0)) := by rw [h1, seedPart_zero]; exact K0.out.2.1.whole _
       have O1 : Old w w1 := by rw [h1]; exact K0.out.2.2.grown (grown_setRow _ _ _) (by omega)
       clear h1 K0))
  go_loopw [6] (fun vi wr => ∃ k : Nat, k ≤ 8 ∧ vi = .int .i64 (k : Nat) ∧ Row wr w.heap.size 22 (nums .u8 (List.replicate 32 0)) ∧ Row wr (w.heap.size + 1) 22 (nums .u8 (seedPart n k)) ∧ Old w wr) (fun vi _ => (8 - intOf vi).toNat)
  case atStart => exact ⟨0, by omega, rfl, R1, R2, O1⟩
  case round =>
    clear R1 R2 O1
    obtain ⟨k, hk, rfl, R1, R2, hol⟩ := hrel
    by_cases hk8 : k = 8
    · subst hk8
      rw [SA.out] at R2
      rw [show ((8 : Nat) : Int) = 8 from rfl]
      go_wp2_with (refine wp_load_whole rfl 22 _ rfl (w.heap.size + 1) rfl R2 Tryd.underlying22 rfl (info_k' FL.out) ?_)
      refine (C2.out _).mono ?_
      rintro e w2 ⟨g, hg, rfl, RB, o2⟩
      have R1' := R1.mono o2
      have hol' := hol.trans o2
      clear R1 R2 hol o2 C2
      have Z1 : Hid (Row (w2.alloc (.cells (nums .u8 (List.replicate 32 0)).toArray 22)) w2.heap.size 22 (nums .u8 (List.replicate 32 0))) := Row.new _ _ _
      go_wp2_with (first
        | (refine wp_store_whole rfl 22 _ _ rfl w2.heap.size rfl (nums .u8 (List.replicate 32 0)) rfl Z1.out (info_k' (by rw [List.length_replicate])) rfl (nums_oneCell _ _) ?_; rintro w3 h3
           have o3 : Old w2 w3 := by rw [h3]; exact (Old.of_alloc _ _).grown (grown_setRow _ _ _) (Nat.le_refl _)
           have R1 := R1'.mono o3
           have RD := RB.mono o3
           have R3 : Row w3 w2.heap.size 22 (nums .u8 (partF 32 (at_ de) 0)) := by rw [h3, partF_zero]; exact Z1.out.whole _
           have hol := hol'.trans o3
           have l1 := hide R1'.lt
           have l2 := hide RB.lt
           clear h3 o3 Z1 R1' RB hol'))
      go_loopw [9] (fun vi wr => ∃ k : Nat, k ≤ 32 ∧ vi = .int .i64 (k : Nat) ∧ Row wr w.heap.size 22 (nums .u8 (List.replicate 32 0)) ∧ Row wr g 5 (nums .u8 de) ∧ Row wr w2.heap.size 22 (nums .u8 (partF 32 (at_ de) k)) ∧ Old w wr) (fun vi _ => (32 - intOf vi).toNat)
      case atStart => exact ⟨0, by omega, rfl, R1, RD, R3, hol⟩
      case round =>
        clear R1 RD R3 hol
        obtain ⟨k, hk, rfl, R1, RD, R3, hol⟩ := hrel
        by_cases hk32 : k = 32
        · subst hk32
          rw [partF_all, range_at de 32 DL.out] at R3
          have HL : Hid ((nums .u8 (List.replicate 32 0)).length = (nums .u8 de).length) := by
            show _ = _
            rw [nums_length, nums_length, DL.out]; rfl
          go_wp2_with (first
            | refine wp_load_whole rfl 22 _ rfl w2.heap.size rfl R3 Tryd.underlying22 rfl (info_k' DL.out) ?_
            | (refine wp_store_whole rfl 22 _ _ rfl w.heap.size rfl (nums .u8 de) rfl R1 (info_k' DL.out) HL.out (nums_oneCell _ _) ?_; rintro w9 h9))
          have K9 : Row w9 w.heap.size 22 (nums .u8 de) := by rw [h9]; exact R1.whole _
          have O9 : Old w w9 := by rw [h9]; exact hol.grown (grown_setRow _ _ _) (by omega)
          exact bodyPost_ret (v := .agg (nums .u8 de).toArray) (results_whole rfl rfl K9 Tryd.underlying22 rfl (info_k' DL.out)) rfl ⟨rfl, O9⟩
        · have hkl : k < 32 := by omega
          have hb : decide ((k : Int) < 32) = true := decide_eq_true (by omega)
          have hki : (0 : Int) ≤ k := by omega
          have hki2 : (k : Int) < 32 := by omega
          have h1 := RD.some (i := k) (by rw [DL.out]; exact hkl)
          have h2 := R3.some (i := k) (by rw [partF_length]; exact hkl)
          have h3 := R3.free k
          go_wp2
          go_roundw
          case rel =>
            have m1 := l1.out
            have m2 := l2.out
            refine ⟨k + 1, by omega, by go_num, R1.grown (grown_set _ _ _ _) (by omega), RD.grown (grown_set _ _ _ _) (by omega), ?_, hol.grown (grown_set _ _ _ _) (by omega)⟩
            rw [← partF_step _ _ k hkl, ← nums_set]
            exact R3.set _ _
          case measure => simp [intOf]; omega
    · have hkl : k < 8 := by omega
      have hb : decide ((k : Int) < 8) = true := decide_eq_true (by omega)
      have hki : (0 : Int) ≤ k := by omega
      have hki2 : (k : Int) < 8 := by omega
      have h2 := R2.some (i := k) (by rw [seedPart_length]; omega)
      have h3 := R2.free k
      go_wp2
      go_roundw
      case rel =>
        refine ⟨k + 1, by omega, by go_num, R1.grown (grown_set _ _ _ _) (by omega), ?_, hol.grown (grown_set _ _ _ _) (by omega)⟩
        have e : ((n : Nat) : Int) / 2 ^ (8 * k) % 256 = ((lowB n k : Nat) : Int) := by
          unfold lowB
          rw [Int.natCast_emod, Int.natCast_ediv, Int.natCast_pow]; rfl
        rw [← seedPart_step _ k hkl, ← nums_set, ← e]
        exact R2.set _ _
      case measure => simp [intOf]; omega
end Go.Proofs.YtjbpnhibgafdmaaDoor
