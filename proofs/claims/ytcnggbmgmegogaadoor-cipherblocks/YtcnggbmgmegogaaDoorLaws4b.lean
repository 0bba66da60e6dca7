/-
  CipherBlocks: the block of any key, counter and nonce is the document's.
-/
import Derived.Test.YtcnggbmgmegogaaDoorLaws4
import Derived.Test.YtcnggbmgmegogaaDoorSsbOps
import Derived.Stop.BytesEq
namespace Go.Proofs.YtcnggbmgmegogaaDoor
open Go.RowKit Cha
set_option linter.unusedVariables false

theorem nums_cells (bl : List Nat) (hb : ∀ x ∈ bl, x < 256) : nums .u8 bl = (bl.map UInt8.ofNat).map Extern.Stop.cell := by
  unfold nums
  rw [List.map_map]
  refine List.map_congr_left fun x hx => ?_
  have := hb x hx
  simp only [Function.comp, Extern.Stop.cell]
  congr 1
  rw [UInt8.toNat_ofNat_of_lt' (by simpa using this)]
  rfl
theorem eq_same (bl : List Nat) (hl : bl.length = 64) (hb : ∀ x ∈ bl, x < 256) (w : World) :
    (Op.equalIn 10000 31 (.agg (nums .u8 bl).toArray) (.agg (nums .u8 bl).toArray)).run Tryd.prog w = .ok true w := by
  rw [nums_cells bl hb]
  have := run_equalIn_bytes (P := Tryd.prog) w 9998 31 5 64 Tryd.underlying31 Tryd.underlying5 (fun w => by kernel_rfl) (bl.map UInt8.ofNat) (bl.map UInt8.ofNat) (by simpa using hl) (by simpa using hl)
  rw [this]
  simp

theorem range_mono {w w' : World} (o : Old w w') {b off : Nat} {cs : List Value} (h : w.rangeAt b off cs) : w'.rangeAt b off cs := fun j v hv => o.cell (h j v hv)
theorem Row.range {w : World} {g : Nat} {t : TypeId} {vs : List Value} (R : Row w g t vs) : w.rangeAt g 0 vs := fun j v hv => by rw [Nat.zero_add]; exact R.cell hv

/-- The key and the nonce lie in their boxes; nothing that was there has turned. -/
def KN (w : World) (ks ns : List Nat) (w' : World) : Prop := w'.rangeAt w.heap.size 0 (nums .u8 ks) ∧ w'.rangeAt (w.heap.size + 1) 0 (nums .u8 ns) ∧ Old w w'
theorem KN.mono {w w1 w2 : World} {ks ns : List Nat} (h : KN w ks ns w1) (o : Old w1 w2) : KN w ks ns w2 := ⟨range_mono o h.1, range_mono o h.2.1, h.2.2.trans o⟩
set_option maxHeartbeats 4000000 in
theorem walk_CipherBlocks (v0 v1 v2 : Value) (w : World) (w0 : IsArr .u8 256 32 v0) (w1 : IsInt .u32 v1) (w2 : IsArr .u8 256 12 v2) (ht : QTab w) :
    Calls Tryd.prog 4 #[v0, v1, v2] w fun e w' => e = .returned (.bool true) ∧ Old w w' := by
  obtain ⟨ks, rfl, hk, bk⟩ := w0
  obtain ⟨c, hc, rfl⟩ := is32 w1
  obtain ⟨ns, rfl, hn, bn⟩ := w2
  have I : Hid (In ks c ns) := ⟨hk, hn, bk, hc, bn⟩
  have HT := hide ht
  have heq := eq_same (block ks c ns) (block_length _ _ _) (block_lt _ _ _)
  have hu1 := Tryd.underlying29
  have hu2 := Tryd.underlying30
  have hi1 : (Tryd.prog.info? 29).map (·.size) = some (nums .u8 ks).length := info_k' hk
  have hi2 : (Tryd.prog.info? 30).map (·.size) = some (nums .u8 ns).length := info_n hn
  have hl1 : (nums .u8 ks).length = 32 := by rw [nums_length, hk]
  have hl2 : (nums .u8 ns).length = 12 := by rw [nums_length, hn]
  clear w1 ht hk hn bk bn hc
  have K0 : KN w ks ns ((w.alloc (.cells (nums .u8 ks).toArray 29)).alloc (.cells (nums .u8 ns).toArray 30)) := by
    refine ⟨((Row.new w _ _).mono (Old.of_alloc _ _)).range, ?_, (Old.of_alloc _ _).alloc _⟩
    have := Row.new (w.alloc (.cells (nums .u8 ks).toArray 29)) 30 (nums .u8 ns)
    rw [size_alloc] at this
    exact this.range
  clear hu1 hu2 hl1 hl2
  have HI1 := hide hi1
  have HI2 := hide hi2
  have HE := hide heq
  clear hi1 hi2 heq
  go_enter Tryd.func4, Tryd.ntmps4
  go_wp2_with fail
  obtain ⟨W0, hW0⟩ : ∃ W, W = (w.alloc (.cells (nums .u8 ks).toArray 29)).alloc (.cells (nums .u8 ns).toArray 30) := ⟨_, rfl⟩
  rw [← hW0] at K0 ⊢
  have K1 : KN w ks ns (W0.drewN 1) := K0.mono ((Old.refl W0).drewN 1)
  clear K0 hW0
  refine Ssb.regionL (KN w ks ns)
    [(1, Ssb.cst (.int .u32 (c : Nat))), (3, Ssb.cst (.pointer (some ⟨w.heap.size, 0, none⟩))), (5, Ssb.cst (.pointer (some ⟨w.heap.size + 1, 0, none⟩)))]
    [(7, Ssb.cst (.bool true)), (8, Ssb.cst (.bool true)), (9, Ssb.cst (.agg (nums .u8 ks).toArray)), (10, Ssb.cst (.int .u32 (c : Nat))), (11, Ssb.cst (.agg (nums .u8 ns).toArray)), (12, Ssb.cst (.agg (nums .u8 (block ks c ns)).toArray)),
     (13, Ssb.cst (.agg (nums .u8 ks).toArray)), (14, Ssb.cst (.int .u32 (c : Nat))), (15, Ssb.cst (.agg (nums .u8 ns).toArray)), (16, Ssb.cst (.agg (nums .u8 (block ks c ns)).toArray)), (17, Ssb.cst (.bool true)), (18, Ssb.cst (.bool true)), (6, Ssb.cst (.bool true))]
    [(8, true)] (by kernel_rfl) (by kernel_rfl) (by kernel_rfl) (by kernel_rfl) ?told (by kernel_rfl) K1 ?ini ?good ?behind
  case told =>
    intro t b ht v w' h
    simp only [List.mem_singleton, Prod.mk.injEq] at ht
    obtain ⟨rfl, rfl⟩ := ht
    exact h
  case ini =>
    intro p hp
    simp only [List.mem_cons, List.not_mem_nil, or_false] at hp
    rcases hp with rfl | rfl | rfl <;> rfl
  case good =>
    refine ⟨?_, Ssb.g_mv rfl rfl fun _ _ h => h, Ssb.g_whole rfl rfl w.heap.size (nums .u8 ks) (fun _ _ h => h) (fun _ h => h.1) Tryd.underlying29 rfl HI1.out (fun _ => rfl), Ssb.g_mv rfl rfl fun _ _ h => h,
      Ssb.g_whole rfl rfl (w.heap.size + 1) (nums .u8 ns) (fun _ _ h => h) (fun _ h => h.2.1) Tryd.underlying30 rfl HI2.out (fun _ => rfl), ?_, Ssb.g_whole rfl rfl w.heap.size (nums .u8 ks) (fun _ _ h => h) (fun _ h => h.1) Tryd.underlying29 rfl HI1.out (fun _ => rfl), Ssb.g_mv rfl rfl fun _ _ h => h,
      Ssb.g_whole rfl rfl (w.heap.size + 1) (nums .u8 ns) (fun _ _ h => h) (fun _ h => h.2.1) Tryd.underlying30 rfl HI2.out (fun _ => rfl), ?_, Ssb.g_eqa rfl rfl (by kernel_rfl) (nums .u8 (block ks c ns)).toArray (fun _ _ h => h) (fun _ _ h => h) HE.out (fun _ => rfl),
      Ssb.g_pick rfl rfl (fun _ _ h => h) fun _ _ h => h, Ssb.g_asg rfl rfl fun _ _ h => h, trivial⟩
    · refine Ssb.g_call rfl fun a w' hC hop => ⟨10, #[], ?_, ?_⟩
      · simp [go_sem]
      · exact (awake4 w' (HT.out.mono hC.2.2)).mono fun _ _ ⟨h1, h2⟩ => ⟨_, h1, hC.mono h2, h2, rfl⟩
    · refine Ssb.g_call rfl fun a w' hC hop => ⟨11, #[.agg (nums .u8 ks).toArray, .int .u32 (c : Nat), .agg (nums .u8 ns).toArray], ?_, ?_⟩
      · have h1 : a.eval (.tmp 9) = .agg (nums .u8 ks).toArray := hop 9 (by simp [Op.operands, Call.operands])
        have h2 : a.eval (.tmp 10) = .int .u32 (c : Nat) := hop 10 (by simp [Op.operands, Call.operands])
        have h3 : a.eval (.tmp 11) = .agg (nums .u8 ns).toArray := hop 11 (by simp [Op.operands, Call.operands])
        simp [Act.eval] at h1 h2 h3
        simp [h1, h2, h3, go_sem]
      · exact (Block_in I.out _ c rfl I.out.cb w' (HT.out.mono hC.2.2)).mono fun _ _ ⟨h1, h2⟩ => ⟨_, h1, hC.mono h2, h2, rfl⟩
    · refine Ssb.g_call rfl fun a w' hC hop => ⟨12, #[.agg (nums .u8 ks).toArray, .int .u32 (c : Nat), .agg (nums .u8 ns).toArray], ?_, ?_⟩
      · have h1 : a.eval (.tmp 13) = .agg (nums .u8 ks).toArray := hop 13 (by simp [Op.operands, Call.operands])
        have h2 : a.eval (.tmp 14) = .int .u32 (c : Nat) := hop 14 (by simp [Op.operands, Call.operands])
        have h3 : a.eval (.tmp 15) = .agg (nums .u8 ns).toArray := hop 15 (by simp [Op.operands, Call.operands])
        simp [Act.eval] at h1 h2 h3
        simp [h1, h2, h3, go_sem]
      · exact (refBlock_in I.out _ c rfl I.out.cb w').mono fun _ _ ⟨h1, h2⟩ => ⟨_, h1, hC.mono h2, h2, rfl⟩
  case behind =>
    intro a' w' hC hdef hsz hok
    have h6 : a'.eval (.tmp 6) = .bool true := hok 6 (by show 6 < 19; decide)
    rename_i Q0 K0 hK
    refine hK a' w' (wp_ret ?_)
    exact Ssb.ends rfl h6 hdef ⟨rfl, hC.2.2⟩
end Go.Proofs.YtcnggbmgmegogaaDoor
