/-
  MgBytes: 2 parts, one behind the other; what each proves, and under which conditions, its own heading says.
-/
import Derived.Test.YtjbpnhibgafdmaaDoorStream
import Derived.Test.YtjbpnhibgafdmaaDoorMgSs

/-
  stream.Nonce and the document's: a tag's nonce.
-/
namespace Go.Proofs.YtjbpnhibgafdmaaDoor
open Go.RowKit Cha
set_option linter.unusedVariables false

theorem info_8 {l : List Nat} (h : l.length = 8) : (Tryd.prog.info? 70).map (·.size) = some (nums .u8 l).length := by
  rw [nums_length, h]; kernel_rfl
theorem size_u8 : (Tryd.prog.info? 5).map (·.size) = some 1 := by kernel_rfl

/-- The blocks of Nonce: the result, the nonce, the tag's bytes. -/
structure NB (w : World) (g : Nat) (low zs : List Nat) (wr : World) : Prop where
  r : Row wr w.heap.size 77 (nums .u8 (List.replicate 12 0))
  n : Row wr (w.heap.size + 1) 77 (nums .u8 zs)
  b : Row wr g 70 (nums .u8 low)
  old : Old w wr
theorem NB.mono {w wr w' : World} {g : Nat} {low zs : List Nat} (h : NB w g low zs wr) (o : Old wr w') : NB w g low zs w' :=
  ⟨h.r.mono o, h.n.mono o, h.b.mono o, h.old.trans o⟩
theorem NB.set {w wr : World} {g : Nat} {low zs : List Nat} (h : NB w g low zs wr) (hg : w.heap.size + 1 < g) (zs' : List Nat) : NB w g low zs' (wr.setRow (w.heap.size + 1) (nums .u8 zs').toArray) :=
  ⟨h.r.grown (grown_setRow _ _ _) (by omega), h.n.whole _, h.b.grown (grown_setRow _ _ _) (by omega), h.old.grown (grown_setRow _ _ _) (by omega)⟩
theorem two_zeros (w : World) : Row ((w.alloc (.cells (nums .u8 (List.replicate 12 0)).toArray 77)).alloc (.cells (nums .u8 (List.replicate 12 0)).toArray 77)) w.heap.size 77 (nums .u8 (List.replicate 12 0)) ∧
    Row ((w.alloc (.cells (nums .u8 (List.replicate 12 0)).toArray 77)).alloc (.cells (nums .u8 (List.replicate 12 0)).toArray 77)) (w.heap.size + 1) 77 (nums .u8 (List.replicate 12 0)) ∧
    Old w ((w.alloc (.cells (nums .u8 (List.replicate 12 0)).toArray 77)).alloc (.cells (nums .u8 (List.replicate 12 0)).toArray 77)) := by
  have K2 := Row.new (w.alloc (.cells (nums .u8 (List.replicate 12 0)).toArray 77)) 77 (nums .u8 (List.replicate 12 0))
  rw [size_alloc] at K2
  exact ⟨(Row.new _ _ _).mono (Old.of_alloc _ _), K2, (Old.of_alloc _ _).alloc _⟩

set_option maxRecDepth 100000 in
set_option maxHeartbeats 2000000 in
theorem Nonce_any (t : Nat) (ht : t < 4294967296) (w : World) :
    Calls Tryd.prog 46 #[.int .u32 (t : Nat)] w fun e w' => e = .returned (.agg (nums .u8 (nonceOf t)).toArray) ∧ Old w w' := by
  have HT := hide ht
  have K0 := hide (two_zeros w)
  have C1 := hide (lowestFirst_any t (by omega))
  go_enter Tryd.func46, Tryd.ntmps46
  go_wp2_with fail
  refine (C1.out _).mono ?_
  rintro e w1 ⟨rfl, o1⟩
  have M1 := K0.out.1.mono o1
  have M2 := K0.out.2.1.mono o1
  have O1 := K0.out.2.2.trans o1
  clear K0 o1 C1
  have Z1 : Hid (Row (w1.alloc (.cells (nums .u8 (List.replicate 8 0)).toArray 70)) w1.heap.size 70 (nums .u8 (List.replicate 8 0))) := Row.new _ _ _
  have l1 := hide M2.lt
  go_wp2_with (first
    | (refine wp_store_whole rfl 70 _ _ rfl w1.heap.size rfl (nums .u8 (lo8 t)) rfl Z1.out (info_8 (lo8_length _)) (by rw [nums_length, nums_length, lo8_length]; rfl) (nums_oneCell _ _) ?_; rintro w2 h2
       have X2 : NB w w1.heap.size (lo8 t) (List.replicate 12 0) w2 := by
         have K2 : Row w2 w1.heap.size 70 (nums .u8 (lo8 t)) := by rw [h2]; exact Z1.out.whole _
         have o2 : Old w1 w2 := by rw [h2]; exact (Old.of_alloc _ _).grown (grown_setRow _ _ _) (Nat.le_refl _)
         exact ⟨M1.mono o2, M2.mono o2, K2, O1.trans o2⟩
       clear h2 Z1 M1 M2 O1))
  refine Ssx.region (Ext := Ssx.Into (w.heap.size + 1) 77 (nums .u8 (nonceOf t))) (fun w' => ∃ zs, NB w w1.heap.size (lo8 t) zs w' ∧ zs.length = 12 ∧ zs.drop 8 = List.replicate 4 0) [8, 9, 10]
    [(8, Ssx.cst (.slice (some ⟨w.heap.size + 1, 0, none⟩) 12 12)), (9, Ssx.cst (.slice (some ⟨w1.heap.size, 0, none⟩) 8 8)), (10, Ssx.laid _ _ _)]
    [] (by kernel_rfl) (by kernel_rfl) (by kernel_rfl) (by kernel_rfl) (fun _ _ h => by cases h) (by kernel_rfl) (by kernel_rfl) (by kernel_rfl) ⟨_, X2.mono ((Old.refl _).drewN 1), rfl, rfl⟩ ?good ?behind
  case good =>
    refine ⟨Ssx.all (Ssx.Into.refl _ _ _) rfl rfl Tryd.underlying77 size_u8 (w.heap.size + 1) (fun _ _ h => h) (fun _ => rfl), Ssx.all (Ssx.Into.refl _ _ _) rfl rfl Tryd.underlying70 size_u8 w1.heap.size (fun _ _ h => h) (fun _ => rfl), ?_, trivial⟩
    refine Ssx.step rfl fun a w' hC hop => ?_
    obtain ⟨zs, X, hz, hz8⟩ := hC
    have h1 : a.eval (.tmp 8) = .slice (some ⟨w.heap.size + 1, 0, none⟩) 12 12 := hop 8 (by simp [Op.operands, Call.operands])
    have h2 : a.eval (.tmp 9) = .slice (some ⟨w1.heap.size, 0, none⟩) 8 8 := hop 9 (by simp [Op.operands, Call.operands])
    have hrun := Ssx.run_into (P := Tryd.prog) (dT := 67) (sT := 67) (ty := 3) Tryd.underlying67 size_u8 (cap := 12) (cap' := 8) X.n hz (lo8_length t) (by omega) (by omega) X.b.rd
    rw [hz8, lo8_tag HT.out] at hrun
    have hx := X.set l1.out (nonceOf t)
    refine ⟨goInt 8, _, ?_, ⟨_, hx, rfl, rfl⟩, ⟨grown_setRow _ _ _, fun _ => hx.n⟩, hx.n⟩
    simp [Act.eval] at h1 h2
    simp [h1, h2, hrun, go_sem]
  case behind =>
    intro vals w' hC hv
    have R3 : Row w' (w.heap.size + 1) 77 (nums .u8 (nonceOf t)) := hv _ (.tail _ (.tail _ (.head _)))
    obtain ⟨zs, X, -, -⟩ := hC
    have R2 := X.r
    have hol := X.old
    clear X X2 hv
    simp only [Ssa.putAll, Act.put, List.map_cons, List.map_nil, List.foldl_cons, List.foldl_nil, List.setIfInBounds_toArray, List.set_cons_succ, List.set_cons_zero]
    generalize vals 8 = x8
    generalize vals 9 = x9
    generalize vals 10 = x10
    rename_i Q0 K0 hK
    refine hK _ w' ?_
    clear hK
    go_wp2_with (first
      | refine wp_load_whole rfl 77 _ rfl (w.heap.size + 1) rfl R3 Tryd.underlying77 rfl (info_n (nonceOf_length t)) ?_
      | (refine wp_store_whole rfl 77 _ _ rfl w.heap.size rfl (nums .u8 (nonceOf t)) rfl R2 (info_n (nonceOf_length t)) rfl (nums_oneCell _ _) ?_; rintro w9 h9))
    have K9 : Row w9 w.heap.size 77 (nums .u8 (nonceOf t)) := by rw [h9]; exact R2.whole _
    have O9 : Old w w9 := by rw [h9]; exact hol.grown (grown_setRow _ _ _) (by omega)
    exact bodyPost_ret (v := .agg (nums .u8 (nonceOf t)).toArray) (results_whole rfl rfl K9 Tryd.underlying77 rfl (info_n (nonceOf_length t))) rfl ⟨rfl, O9⟩

set_option maxHeartbeats 1000000 in
theorem refNonce_any (t : Nat) (ht : t < 4294967296) (w : World) :
    Calls Tryd.prog 48 #[.int .u32 (t : Nat)] w fun e w' => e = .returned (.agg (nums .u8 (nonceOf t)).toArray) ∧ Old w w' := by
  have Z1 : Hid (Row (w.alloc (.cells (nums .u8 (List.replicate 12 0)).toArray 77)) w.heap.size 77 (nums .u8 (List.replicate 12 0))) := Row.new _ _ _
  go_enter Tryd.func48, Tryd.ntmps48
  go_wp2
  have e3 : (t : Int) / 16777216 = ((t / 16777216 % 256 : Nat) : Int) := by omega
  have e : #[Value.int .u8 ((t : Int) % 256), .int .u8 ((t : Int) / 256 % 256), .int .u8 ((t : Int) / 65536 % 256), .int .u8 ((t : Int) / 16777216), .int .u8 0, .int .u8 0, .int .u8 0, .int .u8 0, .int .u8 0, .int .u8 0, .int .u8 0, .int .u8 0] = (nums .u8 (nonceOf t)).toArray := by
    rw [e3]; rfl
  rw [e]
  clear e e3 Z1
  exact bodyPost_ret (v := .agg (nums .u8 (nonceOf t)).toArray) (results_whole rfl rfl (Row.new w 77 (nums .u8 (nonceOf t))) Tryd.underlying77 rfl (info_n (nonceOf_length t))) rfl ⟨rfl, Old.of_alloc _ _⟩
end Go.Proofs.YtjbpnhibgafdmaaDoor

/-
  stream.Bytes and the document's: the first bytes of a seed's stream.
-/
namespace Go.Proofs.YtjbpnhibgafdmaaDoor
open Go.RowKit Cha
set_option linter.unusedVariables false

theorem range_mono {w w' : World} (o : Old w w') {b off : Nat} {cs : List Value} (h : w.rangeAt b off cs) : w'.rangeAt b off cs := fun j v hv => o.cell (h j v hv)
theorem Row.range {w : World} {g : Nat} {t : TypeId} {vs : List Value} (R : Row w g t vs) : w.rangeAt g 0 vs := fun j v hv => by rw [Nat.zero_add]; exact R.cell hv

/-- A new slice over a block that is known whole. -/
def fresh (g0 : Nat) (k : IntKind) (t : TypeId) (n : Nat) (xs : List Nat) : Ssx.XP Old :=
  ⟨fun v w => ∃ g, g0 ≤ g ∧ v = .slice (some ⟨g, 0, none⟩) n n ∧ Row w g t (nums k xs), fun _ _ _ ⟨g, h0, h1, h2⟩ o => ⟨g, h0, h1, h2.mono o⟩⟩

/-- The seed lies in its box, the zeros in their row. -/
structure SB (w : World) (s : List Nat) (m : Nat) (wr : World) : Prop where
  k : wr.rangeAt w.heap.size 0 (nums .u8 s)
  z : Row wr (w.heap.size + 1) 5 (nums .u8 (List.replicate m 0))
  old : Old w wr
theorem SB.mono {w wr w' : World} {s : List Nat} {m : Nat} (h : SB w s m wr) (o : Old wr w') : SB w s m w' := ⟨range_mono o h.k, h.z.mono o, h.old.trans o⟩
theorem SB.start (w : World) (s : List Nat) (m : Nat) (T : TypeId) : SB w s m ((w.alloc (.cells (nums .u8 s).toArray T)).alloc (.cells (nums .u8 (List.replicate m 0)).toArray 5)) := by
  have K2 := Row.new (w.alloc (.cells (nums .u8 s).toArray T)) 5 (nums .u8 (List.replicate m 0))
  rw [size_alloc] at K2
  exact ⟨((Row.new w _ _).mono (Old.of_alloc _ _)).range, K2, (Old.of_alloc _ _).alloc _⟩

set_option maxRecDepth 100000 in
set_option maxHeartbeats 2000000 in
theorem Bytes_any (s : List Nat) (hl : s.length = 32) (hb : ∀ x ∈ s, x < 256) (t : Nat) (ht : t < 4294967296) (n : Int) (w : World) (q : QTab w) :
    Calls Tryd.prog 37 #[.agg (nums .u8 s).toArray, .int .u32 (t : Nat), .int .i64 n] w fun e w' =>
      ∃ g, w.heap.size ≤ g ∧ e = .returned (.slice (some ⟨g, 0, none⟩) (kept n 65536) (kept n 65536)) ∧ Row w' g 5 (nums .u8 (sbytes s t (kept n 65536))) ∧ Old w w' := by
  have HT := hide ht
  have HQ := hide q
  have I := hide (in_seed hl hb t)
  have HI : Hid ((Tryd.prog.info? 32).map (·.size) = some (nums .u8 s).length) := info_k hl
  have C1 := hide (within_any n 65536)
  have km := kept_le n 65536
  revert C1 km
  generalize kept n 65536 = m
  intro C1 km
  have hmk := make_bytes m (by omega)
  have S0 := hide (SB.start w s m 32)
  clear ht q hl hb
  go_enter Tryd.func37, Tryd.ntmps37
  go_wp2_with fail
  refine (C1.out _).mono ?_
  rintro e w1 ⟨rfl, rfl⟩
  go_wp2_with fail
  obtain ⟨W0, hW0⟩ : ∃ W, W = (w.alloc (.cells (nums .u8 s).toArray 32)).alloc (.cells (nums .u8 (List.replicate m 0)).toArray 5) := ⟨_, rfl⟩
  have S1 := S0.out
  rw [← hW0] at S1 ⊢
  replace S1 : SB w s m (W0.drewN 1) := S1.mono ((Old.refl W0).drewN 1)
  clear S0 hW0 hmk C1
  refine Ssx.region (Ext := Old) (SB w s m) [11, 12, 13, 14, 15, 6]
    [(11, Ssx.cst (.agg (nums .u8 s).toArray)), (12, Ssx.nat .u32 t), (13, Ssx.cst (.agg (nums .u8 (nonceOf t)).toArray)), (14, Ssx.cst (.slice (some ⟨w.heap.size + 1, 0, none⟩) m m)),
     (15, fresh w.heap.size .u8 5 m (sbytes s t m)), (6, fresh w.heap.size .u8 5 m (sbytes s t m))]
    [] (by kernel_rfl) (by kernel_rfl) (by kernel_rfl) (by kernel_rfl) (fun _ _ h => by cases h) (by kernel_rfl) (by kernel_rfl) (by kernel_rfl) S1 ?good ?behind
  case good =>
    refine ⟨Ssx.whole Old.refl rfl rfl w.heap.size (nums .u8 s) (fun _ _ h => h) (fun _ h => h.k) Tryd.underlying32 rfl HI.out (fun _ => rfl), Ssx.mv Old.refl rfl rfl (fun _ _ h => h), ?_, Ssx.mv Old.refl rfl rfl (fun _ _ h => h), ?_, Ssx.asg Old.refl rfl rfl (fun _ _ h => h), trivial⟩
    · refine Ssx.call rfl fun a w' hC hop => ⟨46, #[.int .u32 (t : Nat)], ?_, ?_⟩
      · have h1 : a.eval (.tmp 12) = .int .u32 (t : Nat) := hop 12 (by simp [Op.operands, Call.operands])
        simp [Act.eval] at h1
        simp [h1, go_sem]
      · exact (Nonce_any t HT.out w').mono fun _ _ ⟨h1, h2⟩ => ⟨_, h1, hC.mono h2, h2, rfl⟩
    · refine Ssx.call rfl fun a w' hC hop => ⟨45, #[.agg (nums .u8 s).toArray, .int .u32 0, .agg (nums .u8 (nonceOf t)).toArray, .slice (some ⟨w.heap.size + 1, 0, none⟩) m m], ?_, ?_⟩
      · have h1 : a.eval (.tmp 11) = .agg (nums .u8 s).toArray := hop 11 (by simp [Op.operands, Call.operands])
        have h2 : a.eval (.tmp 13) = .agg (nums .u8 (nonceOf t)).toArray := hop 13 (by simp [Op.operands, Call.operands])
        have h3 : a.eval (.tmp 14) = .slice (some ⟨w.heap.size + 1, 0, none⟩) m m := hop 14 (by simp [Op.operands, Call.operands])
        simp [Act.eval] at h1 h2 h3
        simp [h1, h2, h3, go_sem]
      · refine (Xor_own s (nonceOf t) (List.replicate m 0) 0 m I.out _ m w' (HQ.out.mono hC.old) List.length_replicate (by omega) (zeros_lt m) hC.z.rd).mono fun _ _ ⟨g, h0, h1, h2, h3⟩ => ⟨_, h1, hC.mono h3, h3, ?_⟩
        exact ⟨g, Nat.le_trans hC.old.size h0, rfl, h2⟩
  case behind =>
    intro vals w' hC hv
    have h6 : (fresh w.heap.size .u8 5 m (sbytes s t m)).p (vals 6) w' := hv _ (.tail _ (.tail _ (.tail _ (.tail _ (.tail _ (.head _))))))
    obtain ⟨g, h0, h1, h2⟩ := h6
    have hol := hC.old
    clear hC hv
    simp only [Ssa.putAll, List.map_cons, List.map_nil, List.foldl_cons, List.foldl_nil, List.setIfInBounds_toArray, List.set_cons_succ, List.set_cons_zero]
    rename_i Q0 K0 hK
    refine hK _ w' ?_
    clear hK
    rw [h1]
    go_wp2
    go_ret
    exact ⟨g, h0, rfl, h2, hol⟩

/-- The seed lies in its box. -/
structure KB (w : World) (s : List Nat) (wr : World) : Prop where
  k : wr.rangeAt w.heap.size 0 (nums .u8 s)
  old : Old w wr
theorem KB.mono {w wr w' : World} {s : List Nat} (h : KB w s wr) (o : Old wr w') : KB w s w' := ⟨range_mono o h.k, h.old.trans o⟩
theorem KB.start (w : World) (s : List Nat) (T : TypeId) : KB w s (w.alloc (.cells (nums .u8 s).toArray T)) := ⟨(Row.new w _ _).range, Old.of_alloc _ _⟩
theorem kept_cases (n : Int) (m : Nat) : (n < 0 ∧ (kept n m : Int) = 0) ∨ (0 ≤ n ∧ n ≤ m ∧ (kept n m : Int) = n) ∨ ((m : Int) < n ∧ kept n m = m) := by
  unfold kept; omega

set_option maxRecDepth 100000 in
set_option maxHeartbeats 2000000 in
theorem refBytes_any (s : List Nat) (hl : s.length = 32) (hb : ∀ x ∈ s, x < 256) (t : Nat) (ht : t < 4294967296) (n : Int) (w : World) :
    Calls Tryd.prog 40 #[.agg (nums .u8 s).toArray, .int .u32 (t : Nat), .int .i64 n] w fun e w' =>
      ∃ g, w.heap.size ≤ g ∧ e = .returned (.slice (some ⟨g, 0, none⟩) (kept n 65536) (kept n 65536)) ∧ Row w' g 5 (nums .u8 (sbytes s t (kept n 65536))) ∧ Old w w' := by
  have HT := hide ht
  have I := hide (in_seed hl hb t)
  have HI : Hid ((Tryd.prog.info? 22).map (·.size) = some (nums .u8 s).length) := info_k' hl
  have km := kept_le n 65536
  have hcs := kept_cases n 65536
  revert km hcs
  generalize kept n 65536 = m
  intro km hcs
  have hmk := hide (make_bytes m (by omega))
  have S0 := hide (KB.start w s 22)
  clear ht hl hb
  rcases hcs with ⟨hn, hc⟩ | ⟨hn, hn2, hc⟩ | ⟨hn, hc⟩
  all_goals
    go_enter Tryd.func40, Tryd.ntmps40
    go_wp2_with fail
    obtain ⟨W0, hW0⟩ : ∃ W, W = w.alloc (.cells (nums .u8 s).toArray 22) := ⟨_, rfl⟩
    have S1 := S0.out
    rw [← hW0] at S1 ⊢
    replace S1 : KB w s (W0.drewN 1) := S1.mono ((Old.refl W0).drewN 1)
    clear S0 hW0
    refine Ssx.region (Ext := Old) (KB w s) [11, 12, 13, 14, 15, 16, 6]
      [(11, Ssx.cst (.agg (nums .u8 s).toArray)), (12, Ssx.nat .u32 t), (13, Ssx.cst (.agg (nums .u8 (nonceOf t)).toArray)), (14, Ssx.nat .i64 m), (15, fresh w.heap.size .u8 5 m (List.replicate m 0)),
       (16, fresh w.heap.size .u8 5 m (sbytes s t m)), (6, fresh w.heap.size .u8 5 m (sbytes s t m))]
      [] (by kernel_rfl) (by kernel_rfl) (by kernel_rfl) (by kernel_rfl) (fun _ _ h => by cases h) (by kernel_rfl) (by kernel_rfl) (by kernel_rfl) S1 ?good ?behind
    case good =>
      refine ⟨Ssx.whole Old.refl rfl rfl w.heap.size (nums .u8 s) (fun _ _ h => h) (fun _ h => h.k) Tryd.underlying22 rfl HI.out (fun _ => rfl), Ssx.mv Old.refl rfl rfl (fun _ _ h => h), ?_, Ssx.mv Old.refl rfl rfl (fun _ _ h => h.trans (congrArg (Value.int .i64) (by omega))), ?_, ?_, Ssx.asg Old.refl rfl rfl (fun _ _ h => h), trivial⟩
      · refine Ssx.call rfl fun a w' hC hop => ⟨48, #[.int .u32 (t : Nat)], ?_, ?_⟩
        · have h1 : a.eval (.tmp 12) = .int .u32 (t : Nat) := hop 12 (by simp [Op.operands, Call.operands])
          simp [Act.eval] at h1
          simp [h1, go_sem]
        · exact (refNonce_any t HT.out w').mono fun _ _ ⟨h1, h2⟩ => ⟨_, h1, hC.mono h2, h2, rfl⟩
      · refine Ssx.step rfl fun a w' hC hop => ⟨.slice (some ⟨w'.heap.size, 0, none⟩) m m, _, ?_, hC.mono (Old.of_alloc _ _), Old.of_alloc _ _, ⟨_, hC.old.size, rfl, Row.new _ _ _⟩⟩
        have h1 : a.eval (.tmp 14) = .int .i64 (m : Nat) := hop 14 (by simp [Op.operands])
        have h2 := hmk.out w'
        simp [Act.eval] at h1
        simp [h1, h2, go_sem]
      · refine Ssx.call rfl fun a w' hC hop => ?_
        obtain ⟨b, hb0, hb1, hb2⟩ : (fresh w.heap.size .u8 5 m (List.replicate m 0)).p (a.eval (.tmp 15)) w' := hop 15 (by simp [Op.operands, Call.operands])
        refine ⟨47, #[.agg (nums .u8 s).toArray, .int .u32 0, .agg (nums .u8 (nonceOf t)).toArray, .slice (some ⟨b, 0, none⟩) m m], ?_, ?_⟩
        · have h1 : a.eval (.tmp 11) = .agg (nums .u8 s).toArray := hop 11 (by simp [Op.operands, Call.operands])
          have h2 : a.eval (.tmp 13) = .agg (nums .u8 (nonceOf t)).toArray := hop 13 (by simp [Op.operands, Call.operands])
          simp [Act.eval] at h1 h2 hb1
          simp [h1, h2, hb1, go_sem]
        · refine (refXor_own s (nonceOf t) (List.replicate m 0) 0 m I.out _ m w' List.length_replicate (by omega) (zeros_lt m) hb2.rd).mono fun _ _ ⟨g, h0, h1, h2, h3⟩ => ⟨_, h1, hC.mono h3, h3, ?_⟩
          exact ⟨g, Nat.le_trans hC.old.size h0, rfl, h2⟩
    case behind =>
      intro vals w' hC hv
      have h6 : (fresh w.heap.size .u8 5 m (sbytes s t m)).p (vals 6) w' := hv _ (.tail _ (.tail _ (.tail _ (.tail _ (.tail _ (.tail _ (.head _)))))))
      obtain ⟨g, h0, h1, h2⟩ := h6
      have hol := hC.old
      clear hC hv
      simp only [Ssa.putAll, List.map_cons, List.map_nil, List.foldl_cons, List.foldl_nil, List.setIfInBounds_toArray, List.set_cons_succ, List.set_cons_zero]
      rename_i Q0 K0 hK
      refine hK _ w' ?_
      clear hK
      rw [h1]
      go_wp2
      go_ret
      exact ⟨g, h0, rfl, h2, hol⟩
end Go.Proofs.YtjbpnhibgafdmaaDoor
