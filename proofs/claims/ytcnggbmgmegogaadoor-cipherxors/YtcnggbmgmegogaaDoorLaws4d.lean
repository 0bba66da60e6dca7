/-
  CipherBack: twice under a stream is nothing; from a block's end on it is the stream of the next counter.
-/
import Derived.Test.YtcnggbmgmegogaaDoorLaws4c
import Derived.Test.YtcnggbmgmegogaaDoorLaid4
namespace Go.Proofs.YtcnggbmgmegogaaDoor
open Go.RowKit Cha
set_option linter.unusedVariables false

theorem at_xor (ks : List Nat) (c : Nat) (ns bs : List Nat) (i : Nat) (hi : i < bs.length) : at_ (Cha.xor ks c ns bs) i = at_ bs i ^^^ at_ (block ks (add c (i / 64)) ns) (i % 64) := by
  simp [at_, Cha.xor, hi]
theorem ext_at {xs ys : List Nat} (hl : xs.length = ys.length) (h : ∀ i, i < xs.length → at_ xs i = at_ ys i) : xs = ys := by
  apply List.ext_getElem hl
  intro i h1 h2
  have := h i h1
  simpa [at_, h1, h2] using this
theorem xor_xor (ks : List Nat) (c : Nat) (ns bs : List Nat) : Cha.xor ks c ns (Cha.xor ks c ns bs) = bs := by
  apply ext_at
  · rw [xor_len, xor_len]
  · intro i hi
    rw [xor_len, xor_len] at hi
    rw [at_xor _ _ _ _ _ (by rw [xor_len]; exact hi), at_xor _ _ _ _ _ hi, xor_back]
theorem xor_drop (ks : List Nat) (c : Nat) (ns bs : List Nat) (h : 64 ≤ bs.length) : Cha.xor ks (add c 1) ns (bs.drop 64) = (Cha.xor ks c ns bs).drop 64 := by
  apply ext_at
  · rw [xor_len, List.length_drop, List.length_drop, xor_len]
  · intro i hi
    rw [xor_len, List.length_drop] at hi
    have e : at_ ((Cha.xor ks c ns bs).drop 64) i = at_ (Cha.xor ks c ns bs) (64 + i) := by simp [at_]
    have e2 : at_ (bs.drop 64) i = at_ bs (64 + i) := by simp [at_]
    rw [at_xor _ _ _ _ _ (by rw [List.length_drop]; omega), e, at_xor _ _ _ _ _ (by omega), e2, show (64 + i) % 64 = i % 64 by omega, show add (add c 1) (i / 64) = add c ((64 + i) / 64) by unfold add; omega]
theorem xor_bound (ks : List Nat) (c : Nat) (ns bs : List Nat) (hb : ∀ x ∈ bs, x < 256) : ∀ x ∈ Cha.xor ks c ns bs, x < 256 := by
  intro x hx
  obtain ⟨i, _, rfl⟩ := List.mem_map.1 hx
  exact xor8_lt (at8_lt hb _) (at8_lt (block_lt _ _ _) _)
theorem In.next {ks ns : List Nat} {c : Nat} (I : In ks c ns) : In ks (add c 1) ns := ⟨I.kl, I.nl, I.kb, add_lt _ _, I.nb⟩

set_option maxHeartbeats 4000000 in
theorem walk_CipherBack (v0 v1 v2 v3 : Value) (w : World) (w0 : IsArr .u8 256 32 v0) (w1 : IsInt .u32 v1) (w2 : IsArr .u8 256 12 v2) (w3 : IsNums .u8 256 140737488351232 w v3) (ht : QTab w) :
    Calls Tryd.prog 6 #[v0, v1, v2, v3] w fun e w' => e = .returned (.bool true) ∧ Old w w' := by
  obtain ⟨ks, rfl, hk, bk⟩ := w0
  obtain ⟨c, hc, rfl⟩ := is32 w1
  obtain ⟨ns, rfl, hn, bn⟩ := w2
  obtain ⟨a, len, cap, bs, rfl, hl, hb, rd, hM, hcap⟩ := w3
  have I : Hid (In ks c ns) := ⟨hk, hn, bk, hc, bn⟩
  have HT := hide ht
  have HI1 : Hid ((Tryd.prog.info? 29).map (·.size) = some (nums .u8 ks).length) := info_k' hk
  have HI2 : Hid ((Tryd.prog.info? 30).map (·.size) = some (nums .u8 ns).length) := info_n hn
  have HB := hide hb
  have HL := hide hl
  have KA : Hid (Row ((w.alloc (.cells (nums .u8 ks).toArray 29)).alloc (.cells (nums .u8 ns).toArray 30)) w.heap.size 29 (nums .u8 ks)) := (Row.new w _ _).mono (Old.of_alloc _ _)
  have KB : Hid (Row ((w.alloc (.cells (nums .u8 ks).toArray 29)).alloc (.cells (nums .u8 ns).toArray 30)) (w.heap.size + 1) 30 (nums .u8 ns)) := by
    have := Row.new (w.alloc (.cells (nums .u8 ks).toArray 29)) 30 (nums .u8 ns)
    rw [size_alloc] at this
    exact this
  have O0 : Hid (Old w ((w.alloc (.cells (nums .u8 ks).toArray 29)).alloc (.cells (nums .u8 ns).toArray 30))) := (Old.of_alloc _ _).alloc _
  clear w1 ht hk hn bk bn hc hb hl
  by_cases h3 : 3000 < len
  · have LD : Hid ((bs.take 3000).length = 3000) := by show _ = _; rw [List.length_take, HL.out]; omega
    have BD : Hid (∀ x ∈ bs.take 3000, x < 256) := fun x hx => HB.out x (List.mem_of_mem_take hx)
    have RD : Hid (Rd w a (nums .u8 (bs.take 3000))) := rd_take rd 3000
    clear rd
    have XL : Hid ((Cha.xor ks c ns (bs.take 3000)).length = 3000) := by show _ = _; rw [xor_len]; exact LD.out
    have XB : Hid (∀ x ∈ (Cha.xor ks c ns (bs.take 3000)), x < 256) := xor_bound _ _ _ _ BD.out
    go_enter Tryd.func6, Tryd.ntmps6
    go_wp2_with (first
      | refine wp_load_whole rfl 29 _ rfl w.heap.size rfl KA.out Tryd.underlying29 rfl HI1.out ?_
      | refine wp_load_whole rfl 30 _ rfl (w.heap.size + 1) rfl KB.out Tryd.underlying30 rfl HI2.out ?_)
    refine (Xor_any ks ns (bs.take 3000) c 3000 I.out a cap _ (HT.out.mono O0.out) LD.out (by omega) BD.out (RD.out.mono O0.out)).mono ?_
    rintro e w1 ⟨g1, rfl, rx, o1⟩
    have KA1 := hide (KA.out.mono o1)
    have KB1 := hide (KB.out.mono o1)
    have O1 := hide (O0.out.trans o1)
    clear KA KB O0 o1
    go_wp2_with (first
      | refine wp_load_whole rfl 29 _ rfl w.heap.size rfl KA1.out Tryd.underlying29 rfl HI1.out ?_
      | refine wp_load_whole rfl 30 _ rfl (w.heap.size + 1) rfl KB1.out Tryd.underlying30 rfl HI2.out ?_)
    refine (Xor_any ks ns (Cha.xor ks c ns (bs.take 3000)) c 3000 I.out (some ⟨g1, 0, none⟩) 3000 _ (HT.out.mono O1.out) XL.out (by omega) XB.out rx).mono ?_
    rintro e w2 ⟨g2, rfl, ry, o2⟩
    rw [xor_xor] at ry
    have KA2 := hide (KA1.out.mono o2)
    have KB2 := hide (KB1.out.mono o2)
    have O2 := hide (O1.out.trans o2)
    have RX2 := hide (rx.mono o2)
    have RY2 := hide ry
    clear KA1 KB1 O1 o2 rx ry
    go_wp2_with fail
    refine (awake4 _ (HT.out.mono O2.out)).mono ?_
    rintro e w3 ⟨rfl, o3⟩
    have KA3 := hide (KA2.out.mono o3)
    have KB3 := hide (KB2.out.mono o3)
    have O3 := hide (O2.out.trans o3)
    have RX3 := hide (RX2.out.mono o3)
    have RY3 := hide (RY2.out.mono o3)
    clear KA2 KB2 O2 o3 RX2 RY2
    have hcy := Ssb.run_bstr (P := Tryd.prog) (cap := 3000) Tryd.underlying36 Tryd.underlying5 Tryd.underlying9 LD.out RY3.out
    have hcb := Ssb.run_bstr (P := Tryd.prog) (cap := cap) Tryd.underlying36 Tryd.underlying5 Tryd.underlying9 LD.out (RD.out.mono O3.out)
    go_wp2_with fail
    have K1 : KN w ks ns (w3.drewN 1) := ⟨(KA3.out.drewN 1).range, (KB3.out.drewN 1).range, O3.out.drewN 1⟩
    have DL : Hid (((Cha.xor ks c ns (bs.take 3000)).drop 64).length = 3000 - 64) := by show _ = _; rw [List.length_drop, XL.out]
    refine Ssb.regionL (KN w ks ns)
      [(1, Ssb.cst (.int .u32 (c : Nat))), (3, Ssb.some_ .u8 3000 (bs.take 3000)), (4, Ssb.cst (.pointer (some ⟨w.heap.size, 0, none⟩))), (6, Ssb.cst (.pointer (some ⟨w.heap.size + 1, 0, none⟩))), (9, Ssb.some_ .u8 3000 (Cha.xor ks c ns (bs.take 3000)))]
      [(48, Ssb.cst (.agg (nums .u8 ks).toArray)), (49, Ssb.cst (.int .u32 (c : Nat))), (50, Ssb.cst (.int .u32 (add c 1 : Nat))), (51, Ssb.cst (.agg (nums .u8 ns).toArray)), (52, Ssb.some_ .u8 3000 (bs.take 3000)), (53, Ssb.some_ .u8 (3000 - 64) ((bs.take 3000).drop 64)), (54, Ssb.own .u8 (3000 - 64) ((Cha.xor ks c ns (bs.take 3000)).drop 64)), (55, Ssb.cst (.string (Ssb.bstr ((Cha.xor ks c ns (bs.take 3000)).drop 64)))), (56, Ssb.some_ .u8 3000 (Cha.xor ks c ns (bs.take 3000))), (57, Ssb.some_ .u8 (3000 - 64) ((Cha.xor ks c ns (bs.take 3000)).drop 64)), (58, Ssb.cst (.string (Ssb.bstr ((Cha.xor ks c ns (bs.take 3000)).drop 64)))), (59, Ssb.cst (.bool true)), (8, Ssb.cst (.bool true))]
      [] (by kernel_rfl) (by kernel_rfl) (by kernel_rfl) (by kernel_rfl) (fun _ _ h => by cases h) (by kernel_rfl) K1 ?ini ?good ?behind
    case ini =>
      intro p hp
      simp only [List.mem_cons, List.not_mem_nil, or_false] at hp
      rcases hp with rfl | rfl | rfl | rfl | rfl
      · rfl
      · exact ⟨a, cap, rfl, by omega, (RD.out.mono O3.out).mono (Old.of_drewN _ _)⟩
      · rfl
      · rfl
      · exact ⟨_, _, rfl, Nat.le_refl _, RX3.out.mono (Old.of_drewN _ _)⟩
    case good =>
      refine ⟨Ssb.g_whole rfl rfl w.heap.size (nums .u8 ks) (fun _ _ h => h) (fun _ h => h.1) Tryd.underlying29 rfl HI1.out (fun _ => rfl), Ssb.g_mv rfl rfl fun _ _ h => h, ?_, Ssb.g_whole rfl rfl (w.heap.size + 1) (nums .u8 ns) (fun _ _ h => h) (fun _ h => h.2.1) Tryd.underlying30 rfl HI2.out (fun _ => rfl), Ssb.g_mv rfl rfl fun _ _ h => h, Ssb.g_from (i := 64) rfl rfl Tryd.underlying36 (by kernel_rfl) 3000 (bs.take 3000) LD.out (by omega) (fun _ _ h => h) (fun _ _ h => h), ?_,
        Ssb.g_str rfl rfl Tryd.underlying36 Tryd.underlying5 Tryd.underlying9 (fun _ _ _ ⟨g, h1, h2⟩ => ⟨_, _, _, _, h1, DL.out, h2, rfl⟩), Ssb.g_mv rfl rfl fun _ _ h => h, Ssb.g_from (i := 64) rfl rfl Tryd.underlying36 (by kernel_rfl) 3000 (Cha.xor ks c ns (bs.take 3000)) XL.out (by omega) (fun _ _ h => h) (fun _ _ h => h),
        Ssb.g_str rfl rfl Tryd.underlying36 Tryd.underlying5 Tryd.underlying9 (fun _ _ _ ⟨_, _, h1, _, h2⟩ => ⟨_, _, _, _, h1, DL.out, h2, rfl⟩),
        Ssb.g_eqs rfl rfl Tryd.underlying9 _ (fun _ _ h => h) (fun _ _ h => h) (fun _ => rfl), Ssb.g_asg rfl rfl fun _ _ h => h, trivial⟩
      · exact Ssb.g_val rfl fun b w' hC hop => ⟨_, Ssa.run_add32 rfl (show b.eval (.tmp 49) = .int .u32 (c : Nat) from hop 49 (by simp [Op.operands])) (b := 1) rfl w', rfl⟩
      · refine Ssb.g_call rfl fun b w' hC hop => ?_
        have h1 : b.eval (.tmp 48) = .agg (nums .u8 ks).toArray := hop 48 (by simp [Op.operands, Call.operands])
        have h2 : b.eval (.tmp 50) = .int .u32 (add c 1 : Nat) := hop 50 (by simp [Op.operands, Call.operands])
        have h3 : b.eval (.tmp 51) = .agg (nums .u8 ns).toArray := hop 51 (by simp [Op.operands, Call.operands])
        obtain ⟨a4, cap4, h4, _, rd4⟩ : ∃ a4 cap4, b.eval (.tmp 53) = .slice a4 (3000 - 64) cap4 ∧ 3000 - 64 ≤ cap4 ∧ Rd w' a4 (nums .u8 ((bs.take 3000).drop 64)) := hop 53 (by simp [Op.operands, Call.operands])
        refine ⟨13, #[.agg (nums .u8 ks).toArray, .int .u32 (add c 1 : Nat), .agg (nums .u8 ns).toArray, .slice a4 (3000 - 64) cap4], ?_, ?_⟩
        · simp [Act.eval] at h1 h2 h3 h4
          simp [h1, h2, h3, h4, go_sem]
        · have hx := xor_drop ks c ns (bs.take 3000) (by rw [LD.out]; omega)
          exact (Xor_any ks ns ((bs.take 3000).drop 64) (add c 1) (3000 - 64) I.out.next a4 cap4 w' (HT.out.mono hC.2.2) (by rw [List.length_drop, LD.out]) (by omega) (fun x hx => BD.out x (List.mem_of_mem_drop hx)) rd4).mono fun _ _ ⟨g, h1, h2, h3⟩ => ⟨_, h1, hC.mono h3, h3, ⟨g, rfl, by rw [← hx]; exact h2⟩⟩
    case behind =>
      intro a' w' hC hdef hsz hok
      have h8 : a'.eval (.tmp 8) = .bool true := hok 8 (by show 8 < 60; decide)
      rename_i Q0 K0 hK
      refine hK a' w' (wp_ret ?_)
      exact Ssb.ends rfl h8 hdef ⟨rfl, hC.2.2⟩
  · have LD := HL
    have BD := HB
    have RD := hide rd
    clear rd
    have XL : Hid ((Cha.xor ks c ns bs).length = len) := by show _ = _; rw [xor_len]; exact LD.out
    have XB : Hid (∀ x ∈ (Cha.xor ks c ns bs), x < 256) := xor_bound _ _ _ _ BD.out
    go_enter Tryd.func6, Tryd.ntmps6
    go_wp2_with (first
      | refine wp_load_whole rfl 29 _ rfl w.heap.size rfl KA.out Tryd.underlying29 rfl HI1.out ?_
      | refine wp_load_whole rfl 30 _ rfl (w.heap.size + 1) rfl KB.out Tryd.underlying30 rfl HI2.out ?_)
    refine (Xor_any ks ns bs c len I.out a cap _ (HT.out.mono O0.out) LD.out (by omega) BD.out (RD.out.mono O0.out)).mono ?_
    rintro e w1 ⟨g1, rfl, rx, o1⟩
    have KA1 := hide (KA.out.mono o1)
    have KB1 := hide (KB.out.mono o1)
    have O1 := hide (O0.out.trans o1)
    clear KA KB O0 o1
    go_wp2_with (first
      | refine wp_load_whole rfl 29 _ rfl w.heap.size rfl KA1.out Tryd.underlying29 rfl HI1.out ?_
      | refine wp_load_whole rfl 30 _ rfl (w.heap.size + 1) rfl KB1.out Tryd.underlying30 rfl HI2.out ?_)
    refine (Xor_any ks ns (Cha.xor ks c ns bs) c len I.out (some ⟨g1, 0, none⟩) len _ (HT.out.mono O1.out) XL.out (by omega) XB.out rx).mono ?_
    rintro e w2 ⟨g2, rfl, ry, o2⟩
    rw [xor_xor] at ry
    have KA2 := hide (KA1.out.mono o2)
    have KB2 := hide (KB1.out.mono o2)
    have O2 := hide (O1.out.trans o2)
    have RX2 := hide (rx.mono o2)
    have RY2 := hide ry
    clear KA1 KB1 O1 o2 rx ry
    go_wp2_with fail
    refine (awake4 _ (HT.out.mono O2.out)).mono ?_
    rintro e w3 ⟨rfl, o3⟩
    have KA3 := hide (KA2.out.mono o3)
    have KB3 := hide (KB2.out.mono o3)
    have O3 := hide (O2.out.trans o3)
    have RX3 := hide (RX2.out.mono o3)
    have RY3 := hide (RY2.out.mono o3)
    clear KA2 KB2 O2 o3 RX2 RY2
    have hcy := Ssb.run_bstr (P := Tryd.prog) (cap := len) Tryd.underlying36 Tryd.underlying5 Tryd.underlying9 LD.out RY3.out
    have hcb := Ssb.run_bstr (P := Tryd.prog) (cap := cap) Tryd.underlying36 Tryd.underlying5 Tryd.underlying9 LD.out (RD.out.mono O3.out)
    by_cases h64 : len < 64
    · go_wp2_with fail
      refine (awake4 _ (HT.out.mono O3.out)).mono ?_
      rintro e w4 ⟨rfl, o4⟩
      have O4 := hide (O3.out.trans o4)
      have hcy := Ssb.run_bstr (P := Tryd.prog) (cap := len) Tryd.underlying36 Tryd.underlying5 Tryd.underlying9 LD.out (RY3.out.mono o4)
      have hcb := Ssb.run_bstr (P := Tryd.prog) (cap := cap) Tryd.underlying36 Tryd.underlying5 Tryd.underlying9 LD.out (RD.out.mono O4.out)
      clear o4
      go_wp2
      go_ret
      exact ⟨rfl, O4.out⟩
    · go_wp2_with fail
      have K1 : KN w ks ns (w3.drewN 1) := ⟨(KA3.out.drewN 1).range, (KB3.out.drewN 1).range, O3.out.drewN 1⟩
      have DL : Hid (((Cha.xor ks c ns bs).drop 64).length = len - 64) := by show _ = _; rw [List.length_drop, XL.out]
      refine Ssb.regionL (KN w ks ns)
        [(1, Ssb.cst (.int .u32 (c : Nat))), (3, Ssb.some_ .u8 len bs), (4, Ssb.cst (.pointer (some ⟨w.heap.size, 0, none⟩))), (6, Ssb.cst (.pointer (some ⟨w.heap.size + 1, 0, none⟩))), (9, Ssb.some_ .u8 len (Cha.xor ks c ns bs))]
        [(48, Ssb.cst (.agg (nums .u8 ks).toArray)), (49, Ssb.cst (.int .u32 (c : Nat))), (50, Ssb.cst (.int .u32 (add c 1 : Nat))), (51, Ssb.cst (.agg (nums .u8 ns).toArray)), (52, Ssb.some_ .u8 len bs), (53, Ssb.some_ .u8 (len - 64) (bs.drop 64)), (54, Ssb.own .u8 (len - 64) ((Cha.xor ks c ns bs).drop 64)), (55, Ssb.cst (.string (Ssb.bstr ((Cha.xor ks c ns bs).drop 64)))), (56, Ssb.some_ .u8 len (Cha.xor ks c ns bs)), (57, Ssb.some_ .u8 (len - 64) ((Cha.xor ks c ns bs).drop 64)), (58, Ssb.cst (.string (Ssb.bstr ((Cha.xor ks c ns bs).drop 64)))), (59, Ssb.cst (.bool true)), (8, Ssb.cst (.bool true))]
        [] (by kernel_rfl) (by kernel_rfl) (by kernel_rfl) (by kernel_rfl) (fun _ _ h => by cases h) (by kernel_rfl) K1 ?ini ?good ?behind
      case ini =>
        intro p hp
        simp only [List.mem_cons, List.not_mem_nil, or_false] at hp
        rcases hp with rfl | rfl | rfl | rfl | rfl
        · rfl
        · exact ⟨a, cap, rfl, by omega, (RD.out.mono O3.out).mono (Old.of_drewN _ _)⟩
        · rfl
        · rfl
        · exact ⟨_, _, rfl, Nat.le_refl _, RX3.out.mono (Old.of_drewN _ _)⟩
      case good =>
        refine ⟨Ssb.g_whole rfl rfl w.heap.size (nums .u8 ks) (fun _ _ h => h) (fun _ h => h.1) Tryd.underlying29 rfl HI1.out (fun _ => rfl), Ssb.g_mv rfl rfl fun _ _ h => h, ?_, Ssb.g_whole rfl rfl (w.heap.size + 1) (nums .u8 ns) (fun _ _ h => h) (fun _ h => h.2.1) Tryd.underlying30 rfl HI2.out (fun _ => rfl), Ssb.g_mv rfl rfl fun _ _ h => h, Ssb.g_from (i := 64) rfl rfl Tryd.underlying36 (by kernel_rfl) len bs LD.out (by omega) (fun _ _ h => h) (fun _ _ h => h), ?_,
          Ssb.g_str rfl rfl Tryd.underlying36 Tryd.underlying5 Tryd.underlying9 (fun _ _ _ ⟨g, h1, h2⟩ => ⟨_, _, _, _, h1, DL.out, h2, rfl⟩), Ssb.g_mv rfl rfl fun _ _ h => h, Ssb.g_from (i := 64) rfl rfl Tryd.underlying36 (by kernel_rfl) len (Cha.xor ks c ns bs) XL.out (by omega) (fun _ _ h => h) (fun _ _ h => h),
          Ssb.g_str rfl rfl Tryd.underlying36 Tryd.underlying5 Tryd.underlying9 (fun _ _ _ ⟨_, _, h1, _, h2⟩ => ⟨_, _, _, _, h1, DL.out, h2, rfl⟩),
          Ssb.g_eqs rfl rfl Tryd.underlying9 _ (fun _ _ h => h) (fun _ _ h => h) (fun _ => rfl), Ssb.g_asg rfl rfl fun _ _ h => h, trivial⟩
        · exact Ssb.g_val rfl fun b w' hC hop => ⟨_, Ssa.run_add32 rfl (show b.eval (.tmp 49) = .int .u32 (c : Nat) from hop 49 (by simp [Op.operands])) (b := 1) rfl w', rfl⟩
        · refine Ssb.g_call rfl fun b w' hC hop => ?_
          have h1 : b.eval (.tmp 48) = .agg (nums .u8 ks).toArray := hop 48 (by simp [Op.operands, Call.operands])
          have h2 : b.eval (.tmp 50) = .int .u32 (add c 1 : Nat) := hop 50 (by simp [Op.operands, Call.operands])
          have h3 : b.eval (.tmp 51) = .agg (nums .u8 ns).toArray := hop 51 (by simp [Op.operands, Call.operands])
          obtain ⟨a4, cap4, h4, _, rd4⟩ : ∃ a4 cap4, b.eval (.tmp 53) = .slice a4 (len - 64) cap4 ∧ len - 64 ≤ cap4 ∧ Rd w' a4 (nums .u8 (bs.drop 64)) := hop 53 (by simp [Op.operands, Call.operands])
          refine ⟨13, #[.agg (nums .u8 ks).toArray, .int .u32 (add c 1 : Nat), .agg (nums .u8 ns).toArray, .slice a4 (len - 64) cap4], ?_, ?_⟩
          · simp [Act.eval] at h1 h2 h3 h4
            simp [h1, h2, h3, h4, go_sem]
          · have hx := xor_drop ks c ns bs (by rw [LD.out]; omega)
            exact (Xor_any ks ns (bs.drop 64) (add c 1) (len - 64) I.out.next a4 cap4 w' (HT.out.mono hC.2.2) (by rw [List.length_drop, LD.out]) (by omega) (fun x hx => BD.out x (List.mem_of_mem_drop hx)) rd4).mono fun _ _ ⟨g, h1, h2, h3⟩ => ⟨_, h1, hC.mono h3, h3, ⟨g, rfl, by rw [← hx]; exact h2⟩⟩
      case behind =>
        intro a' w' hC hdef hsz hok
        have h8 : a'.eval (.tmp 8) = .bool true := hok 8 (by show 8 < 60; decide)
        rename_i Q0 K0 hK
        refine hK a' w' (wp_ret ?_)
        exact Ssb.ends rfl h8 hdef ⟨rfl, hC.2.2⟩
end Go.Proofs.YtcnggbmgmegogaaDoor
