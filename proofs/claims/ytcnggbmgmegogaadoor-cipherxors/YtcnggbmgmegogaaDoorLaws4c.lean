/-
  CipherXors: any bytes under any stream are the document's.
-/
import Derived.Test.YtcnggbmgmegogaaDoorLaws4b
namespace Go.Proofs.YtcnggbmgmegogaaDoor
open Go.RowKit Cha
set_option linter.unusedVariables false

theorem kn_boxes (w : World) (ks ns : List Nat) (t u : TypeId) : KN w ks ns ((w.alloc (.cells (nums .u8 ks).toArray t)).alloc (.cells (nums .u8 ns).toArray u)) := by
  refine ⟨((Row.new w _ _).mono (Old.of_alloc _ _)).range, ?_, (Old.of_alloc _ _).alloc _⟩
  have := Row.new (w.alloc (.cells (nums .u8 ks).toArray t)) u (nums .u8 ns)
  rw [size_alloc] at this
  exact this.range

theorem rd_take {w : World} {a : Option Addr} {k : IntKind} {xs : List Nat} (h : Rd w a (nums k xs)) (m : Nat) : Rd w a (nums k (xs.take m)) := by
  intro i v hv
  refine h i v ?_
  unfold nums at *
  rw [List.map_take, List.getElem?_take] at hv
  split at hv
  · exact hv
  · cases hv

set_option maxHeartbeats 4000000 in
theorem walk_CipherXors (v0 v1 v2 v3 : Value) (w : World) (w0 : IsArr .u8 256 32 v0) (w1 : IsInt .u32 v1) (w2 : IsArr .u8 256 12 v2) (w3 : IsNums .u8 256 140737488351232 w v3) (ht : QTab w) :
    Calls Tryd.prog 5 #[v0, v1, v2, v3] w fun e w' => e = .returned (.bool true) ∧ Old w w' := by
  obtain ⟨ks, rfl, hk, bk⟩ := w0
  obtain ⟨c, hc, rfl⟩ := is32 w1
  obtain ⟨ns, rfl, hn, bn⟩ := w2
  obtain ⟨a, len, cap, bs, rfl, hl, hb, rd, hM, hcap⟩ := w3
  have I : Hid (In ks c ns) := ⟨hk, hn, bk, hc, bn⟩
  have HT := hide ht
  have HI1 : Hid ((Tryd.prog.info? 29).map (·.size) = some (nums .u8 ks).length) := info_k' hk
  have HI2 : Hid ((Tryd.prog.info? 30).map (·.size) = some (nums .u8 ns).length) := info_n hn
  have HB := hide hb
  have HL := hide hl
  have K0 := hide (kn_boxes w ks ns 29 30)
  clear w1 ht hk hn bk bn hc hb hl
  by_cases h3 : 3000 < len
  · go_enter Tryd.func5, Tryd.ntmps5
    go_wp2_with fail
    have LD : Hid ((bs.take 3000).length = 3000) := by show _ = _; rw [List.length_take, HL.out]; omega
    have BD : Hid (∀ x ∈ bs.take 3000, x < 256) := fun x hx => HB.out x (List.mem_of_mem_take hx)
    have RD : Hid (Rd w a (nums .u8 (bs.take 3000))) := rd_take rd 3000
    clear rd
    have XL : Hid ((Cha.xor ks c ns (bs.take 3000)).length = 3000) := by show _ = _; rw [xor_len]; exact LD.out
    obtain ⟨W0, hW0⟩ : ∃ W, W = (w.alloc (.cells (nums .u8 ks).toArray 29)).alloc (.cells (nums .u8 ns).toArray 30) := ⟨_, rfl⟩
    have K1 := K0.out
    rw [← hW0] at K1 ⊢
    replace K1 : KN w ks ns (W0.drewN 1) := K1.mono ((Old.refl W0).drewN 1)
    clear K0 hW0
    refine Ssb.regionL (KN w ks ns)
      [(1, Ssb.cst (.int .u32 (c : Nat))), (3, Ssb.cst (.slice a 3000 cap)), (4, Ssb.cst (.pointer (some ⟨w.heap.size, 0, none⟩))), (6, Ssb.cst (.pointer (some ⟨w.heap.size + 1, 0, none⟩)))]
      [(14, Ssb.cst (.bool true)), (15, Ssb.cst (.bool true)), (16, Ssb.cst (.agg (nums .u8 ks).toArray)), (17, Ssb.cst (.int .u32 (c : Nat))), (18, Ssb.cst (.agg (nums .u8 ns).toArray)), (19, Ssb.cst (.slice a 3000 cap)), (20, Ssb.own .u8 3000 (Cha.xor ks c ns (bs.take 3000))), (21, Ssb.cst (.string (Ssb.bstr (Cha.xor ks c ns (bs.take 3000))))), (22, Ssb.cst (.agg (nums .u8 ks).toArray)), (23, Ssb.cst (.int .u32 (c : Nat))), (24, Ssb.cst (.agg (nums .u8 ns).toArray)), (25, Ssb.cst (.slice a 3000 cap)), (26, Ssb.own .u8 3000 (Cha.xor ks c ns (bs.take 3000))), (27, Ssb.cst (.string (Ssb.bstr (Cha.xor ks c ns (bs.take 3000))))), (28, Ssb.cst (.bool true)), (29, Ssb.cst (.bool true)), (8, Ssb.cst (.bool true))]
      [(15, true)] (by kernel_rfl) (by kernel_rfl) (by kernel_rfl) (by kernel_rfl) ?told (by kernel_rfl) K1 ?ini ?good ?behind
    case told =>
      intro t b ht v w' h
      simp only [List.mem_singleton, Prod.mk.injEq] at ht
      obtain ⟨rfl, rfl⟩ := ht
      exact h
    case ini =>
      intro p hp
      simp only [List.mem_cons, List.not_mem_nil, or_false] at hp
      rcases hp with rfl | rfl | rfl | rfl <;> rfl
    case good =>
      refine ⟨?_, Ssb.g_mv rfl rfl fun _ _ h => h, Ssb.g_whole rfl rfl w.heap.size (nums .u8 ks) (fun _ _ h => h) (fun _ h => h.1) Tryd.underlying29 rfl HI1.out (fun _ => rfl), Ssb.g_mv rfl rfl fun _ _ h => h, Ssb.g_whole rfl rfl (w.heap.size + 1) (nums .u8 ns) (fun _ _ h => h) (fun _ h => h.2.1) Tryd.underlying30 rfl HI2.out (fun _ => rfl), Ssb.g_mv rfl rfl fun _ _ h => h, ?_, Ssb.g_str rfl rfl Tryd.underlying36 Tryd.underlying5 Tryd.underlying9 (fun _ _ _ ⟨g, h1, h2⟩ => ⟨_, _, _, _, h1, XL.out, h2, rfl⟩), Ssb.g_whole rfl rfl w.heap.size (nums .u8 ks) (fun _ _ h => h) (fun _ h => h.1) Tryd.underlying29 rfl HI1.out (fun _ => rfl), Ssb.g_mv rfl rfl fun _ _ h => h, Ssb.g_whole rfl rfl (w.heap.size + 1) (nums .u8 ns) (fun _ _ h => h) (fun _ h => h.2.1) Tryd.underlying30 rfl HI2.out (fun _ => rfl), Ssb.g_mv rfl rfl fun _ _ h => h, ?_, Ssb.g_str rfl rfl Tryd.underlying36 Tryd.underlying5 Tryd.underlying9 (fun _ _ _ ⟨g, h1, h2⟩ => ⟨_, _, _, _, h1, XL.out, h2, rfl⟩),
        Ssb.g_eqs rfl rfl Tryd.underlying9 _ (fun _ _ h => h) (fun _ _ h => h) (fun _ => rfl), Ssb.g_pick rfl rfl (fun _ _ h => h) fun _ _ h => h, Ssb.g_asg rfl rfl fun _ _ h => h, trivial⟩
      · refine Ssb.g_call rfl fun b w' hC hop => ⟨10, #[], ?_, ?_⟩
        · simp [go_sem]
        · exact (awake4 w' (HT.out.mono hC.2.2)).mono fun _ _ ⟨h1, h2⟩ => ⟨_, h1, hC.mono h2, h2, rfl⟩
      · refine Ssb.g_call rfl fun b w' hC hop => ⟨13, #[.agg (nums .u8 ks).toArray, .int .u32 (c : Nat), .agg (nums .u8 ns).toArray, .slice a 3000 cap], ?_, ?_⟩
        · have h1 : b.eval (.tmp 16) = .agg (nums .u8 ks).toArray := hop 16 (by simp [Op.operands, Call.operands])
          have h2 : b.eval (.tmp 17) = .int .u32 (c : Nat) := hop 17 (by simp [Op.operands, Call.operands])
          have h3 : b.eval (.tmp 18) = .agg (nums .u8 ns).toArray := hop 18 (by simp [Op.operands, Call.operands])
          have h4 : b.eval (.tmp 19) = .slice a 3000 cap := hop 19 (by simp [Op.operands, Call.operands])
          simp [Act.eval] at h1 h2 h3 h4
          simp [h1, h2, h3, h4, go_sem]
        · exact (Xor_any ks ns (bs.take 3000) c 3000 I.out a cap w' (HT.out.mono hC.2.2) LD.out (by omega) BD.out (RD.out.mono hC.2.2)).mono fun _ _ ⟨g, h1, h2, h3⟩ => ⟨_, h1, hC.mono h3, h3, ⟨g, rfl, h2⟩⟩
      · refine Ssb.g_call rfl fun b w' hC hop => ⟨14, #[.agg (nums .u8 ks).toArray, .int .u32 (c : Nat), .agg (nums .u8 ns).toArray, .slice a 3000 cap], ?_, ?_⟩
        · have h1 : b.eval (.tmp 22) = .agg (nums .u8 ks).toArray := hop 22 (by simp [Op.operands, Call.operands])
          have h2 : b.eval (.tmp 23) = .int .u32 (c : Nat) := hop 23 (by simp [Op.operands, Call.operands])
          have h3 : b.eval (.tmp 24) = .agg (nums .u8 ns).toArray := hop 24 (by simp [Op.operands, Call.operands])
          have h4 : b.eval (.tmp 25) = .slice a 3000 cap := hop 25 (by simp [Op.operands, Call.operands])
          simp [Act.eval] at h1 h2 h3 h4
          simp [h1, h2, h3, h4, go_sem]
        · exact (refXor_any ks ns (bs.take 3000) c 3000 I.out a cap w' LD.out (by omega) BD.out (RD.out.mono hC.2.2)).mono fun _ _ ⟨g, h1, h2, h3⟩ => ⟨_, h1, hC.mono h3, h3, ⟨g, rfl, h2⟩⟩
    case behind =>
      intro a' w' hC hdef hsz hok
      have h8 : a'.eval (.tmp 8) = .bool true := hok 8 (by show 8 < 30; decide)
      rename_i Q0 K0 hK
      refine hK a' w' (wp_ret ?_)
      exact Ssb.ends rfl h8 hdef ⟨rfl, hC.2.2⟩
  · go_enter Tryd.func5, Tryd.ntmps5
    go_wp2_with fail
    have LD := HL
    have BD := HB
    have RD := hide rd
    clear rd
    have XL : Hid ((Cha.xor ks c ns bs).length = len) := by show _ = _; rw [xor_len]; exact LD.out
    obtain ⟨W0, hW0⟩ : ∃ W, W = (w.alloc (.cells (nums .u8 ks).toArray 29)).alloc (.cells (nums .u8 ns).toArray 30) := ⟨_, rfl⟩
    have K1 := K0.out
    rw [← hW0] at K1 ⊢
    replace K1 : KN w ks ns (W0.drewN 1) := K1.mono ((Old.refl W0).drewN 1)
    clear K0 hW0
    refine Ssb.regionL (KN w ks ns)
      [(1, Ssb.cst (.int .u32 (c : Nat))), (3, Ssb.cst (.slice a len cap)), (4, Ssb.cst (.pointer (some ⟨w.heap.size, 0, none⟩))), (6, Ssb.cst (.pointer (some ⟨w.heap.size + 1, 0, none⟩)))]
      [(14, Ssb.cst (.bool true)), (15, Ssb.cst (.bool true)), (16, Ssb.cst (.agg (nums .u8 ks).toArray)), (17, Ssb.cst (.int .u32 (c : Nat))), (18, Ssb.cst (.agg (nums .u8 ns).toArray)), (19, Ssb.cst (.slice a len cap)), (20, Ssb.own .u8 len (Cha.xor ks c ns bs)), (21, Ssb.cst (.string (Ssb.bstr (Cha.xor ks c ns bs)))), (22, Ssb.cst (.agg (nums .u8 ks).toArray)), (23, Ssb.cst (.int .u32 (c : Nat))), (24, Ssb.cst (.agg (nums .u8 ns).toArray)), (25, Ssb.cst (.slice a len cap)), (26, Ssb.own .u8 len (Cha.xor ks c ns bs)), (27, Ssb.cst (.string (Ssb.bstr (Cha.xor ks c ns bs)))), (28, Ssb.cst (.bool true)), (29, Ssb.cst (.bool true)), (8, Ssb.cst (.bool true))]
      [(15, true)] (by kernel_rfl) (by kernel_rfl) (by kernel_rfl) (by kernel_rfl) ?told (by kernel_rfl) K1 ?ini ?good ?behind
    case told =>
      intro t b ht v w' h
      simp only [List.mem_singleton, Prod.mk.injEq] at ht
      obtain ⟨rfl, rfl⟩ := ht
      exact h
    case ini =>
      intro p hp
      simp only [List.mem_cons, List.not_mem_nil, or_false] at hp
      rcases hp with rfl | rfl | rfl | rfl <;> rfl
    case good =>
      refine ⟨?_, Ssb.g_mv rfl rfl fun _ _ h => h, Ssb.g_whole rfl rfl w.heap.size (nums .u8 ks) (fun _ _ h => h) (fun _ h => h.1) Tryd.underlying29 rfl HI1.out (fun _ => rfl), Ssb.g_mv rfl rfl fun _ _ h => h, Ssb.g_whole rfl rfl (w.heap.size + 1) (nums .u8 ns) (fun _ _ h => h) (fun _ h => h.2.1) Tryd.underlying30 rfl HI2.out (fun _ => rfl), Ssb.g_mv rfl rfl fun _ _ h => h, ?_, Ssb.g_str rfl rfl Tryd.underlying36 Tryd.underlying5 Tryd.underlying9 (fun _ _ _ ⟨g, h1, h2⟩ => ⟨_, _, _, _, h1, XL.out, h2, rfl⟩), Ssb.g_whole rfl rfl w.heap.size (nums .u8 ks) (fun _ _ h => h) (fun _ h => h.1) Tryd.underlying29 rfl HI1.out (fun _ => rfl), Ssb.g_mv rfl rfl fun _ _ h => h, Ssb.g_whole rfl rfl (w.heap.size + 1) (nums .u8 ns) (fun _ _ h => h) (fun _ h => h.2.1) Tryd.underlying30 rfl HI2.out (fun _ => rfl), Ssb.g_mv rfl rfl fun _ _ h => h, ?_, Ssb.g_str rfl rfl Tryd.underlying36 Tryd.underlying5 Tryd.underlying9 (fun _ _ _ ⟨g, h1, h2⟩ => ⟨_, _, _, _, h1, XL.out, h2, rfl⟩),
        Ssb.g_eqs rfl rfl Tryd.underlying9 _ (fun _ _ h => h) (fun _ _ h => h) (fun _ => rfl), Ssb.g_pick rfl rfl (fun _ _ h => h) fun _ _ h => h, Ssb.g_asg rfl rfl fun _ _ h => h, trivial⟩
      · refine Ssb.g_call rfl fun b w' hC hop => ⟨10, #[], ?_, ?_⟩
        · simp [go_sem]
        · exact (awake4 w' (HT.out.mono hC.2.2)).mono fun _ _ ⟨h1, h2⟩ => ⟨_, h1, hC.mono h2, h2, rfl⟩
      · refine Ssb.g_call rfl fun b w' hC hop => ⟨13, #[.agg (nums .u8 ks).toArray, .int .u32 (c : Nat), .agg (nums .u8 ns).toArray, .slice a len cap], ?_, ?_⟩
        · have h1 : b.eval (.tmp 16) = .agg (nums .u8 ks).toArray := hop 16 (by simp [Op.operands, Call.operands])
          have h2 : b.eval (.tmp 17) = .int .u32 (c : Nat) := hop 17 (by simp [Op.operands, Call.operands])
          have h3 : b.eval (.tmp 18) = .agg (nums .u8 ns).toArray := hop 18 (by simp [Op.operands, Call.operands])
          have h4 : b.eval (.tmp 19) = .slice a len cap := hop 19 (by simp [Op.operands, Call.operands])
          simp [Act.eval] at h1 h2 h3 h4
          simp [h1, h2, h3, h4, go_sem]
        · exact (Xor_any ks ns bs c len I.out a cap w' (HT.out.mono hC.2.2) LD.out (by omega) BD.out (RD.out.mono hC.2.2)).mono fun _ _ ⟨g, h1, h2, h3⟩ => ⟨_, h1, hC.mono h3, h3, ⟨g, rfl, h2⟩⟩
      · refine Ssb.g_call rfl fun b w' hC hop => ⟨14, #[.agg (nums .u8 ks).toArray, .int .u32 (c : Nat), .agg (nums .u8 ns).toArray, .slice a len cap], ?_, ?_⟩
        · have h1 : b.eval (.tmp 22) = .agg (nums .u8 ks).toArray := hop 22 (by simp [Op.operands, Call.operands])
          have h2 : b.eval (.tmp 23) = .int .u32 (c : Nat) := hop 23 (by simp [Op.operands, Call.operands])
          have h3 : b.eval (.tmp 24) = .agg (nums .u8 ns).toArray := hop 24 (by simp [Op.operands, Call.operands])
          have h4 : b.eval (.tmp 25) = .slice a len cap := hop 25 (by simp [Op.operands, Call.operands])
          simp [Act.eval] at h1 h2 h3 h4
          simp [h1, h2, h3, h4, go_sem]
        · exact (refXor_any ks ns bs c len I.out a cap w' LD.out (by omega) BD.out (RD.out.mono hC.2.2)).mono fun _ _ ⟨g, h1, h2, h3⟩ => ⟨_, h1, hC.mono h3, h3, ⟨g, rfl, h2⟩⟩
    case behind =>
      intro a' w' hC hdef hsz hok
      have h8 : a'.eval (.tmp 8) = .bool true := hok 8 (by show 8 < 30; decide)
      rename_i Q0 K0 hK
      refine hK a' w' (wp_ret ?_)
      exact Ssb.ends rfl h8 hdef ⟨rfl, hC.2.2⟩
end Go.Proofs.YtcnggbmgmegogaaDoor
