/-
  The walks of layer 13's statements, if the layer's calls are what they owe: StatsOf.
-/
import Derived.Test.YthaaajepolahfaaLaws13
import Derived.Deep.DeepCutAuto
namespace Go.Proofs.Ythaaajepolahfaa
open Go.RowKit Pn
set_option linter.unusedVariables false

set_option maxRecDepth 100000 in
set_option maxHeartbeats 4000000 in
theorem walkK_StatsOf (K : StatsK) (v0 v1 : Value) (w : World) (w0 : IsPlan w v0) (w1 : IsSam w v1) :
    Calls Try.prog 3 #[v0, v1] w fun e w' => e = .returned (.bool true) ∧ Old w w' := by
  obtain ⟨lo, hi, mo, a, n, cap, es, rfl, F⟩ := w0
  obtain ⟨b, k0, ck, xs0, rfl, hkc, S0⟩ := w1
  have B := hide (Bx.start cap F)
  have HS := hide S0
  have HF := hide F
  have C0 := hide (awake13 K)
  have C1 := hide (fun (k : Nat) (xs : List Int) (wr : World) (h : Fit wr lo hi mo a n es) (h2 : Sam wr b k xs) (h3 : k ≤ 2147483647) => K.of lo hi mo a n cap es b k ck xs wr h h2 h3)
  have C2 := hide (fun (wr : World) (h : Fit wr lo hi mo a n es) => refSound10_any cap wr h)
  have C3 := hide (fun (hs : soundZ lo hi mo es = 0) (k : Nat) (xs : List Int) (wr : World) (h : Fit wr lo hi mo a n es) (h2 : Sam wr b k xs) => refStats13_any cap b k ck xs wr h hs h2)
  have NS : Hid (soundZ lo hi mo es = 0 → n ≤ 64) := fun h => by
    have := (sound_of h).2.2
    have := F.len
    unfold bad3 at *
    omega
  have LC : Hid (∀ xs, (cntL lo hi es xs).length = n + 1) := fun xs => by rw [cntL_length, F.len]
  unfold pv at C1 C2 C3 ⊢
  clear K F S0
  go_enter Try.func3, Try.ntmps3
  go_upto_if 10 with fail
  go_cut [1] (fun v wc => wc = w.alloc (.cells #[.int .i64 lo, .int .i64 hi, .int .i64 mo, .slice a n cap] 24) ∧ ∃ (k : Nat) (xs : List Int), v = .slice b k ck ∧ Hid (Sam w b k xs) ∧ k ≤ 300)
  case first =>
    by_cases h : 300 < k0
    · have d : decide ((300 : Int) < k0) = true := decide_eq_true (by omega)
      have d2 : (300 : Int) ≤ ck := by omega
      go_wp2_with fail
      go_meet
      exact ⟨rfl, 300, xs0.take 300, rfl, HS.out.cut (by omega), Nat.le_refl _⟩
    · have d : decide ((300 : Int) < k0) = false := decide_eq_false (by omega)
      go_wp2_with fail
      go_meet
      exact ⟨rfl, k0, xs0, rfl, HS.out, by omega⟩
  case rest =>
    obtain ⟨rfl, k, xs, rfl, S1, hk⟩ := hcut
    clear HS hkc
    go_wp2_with fail
    refine (C1.out k xs _ B.out.fit (S1.out.mono B.out.old) (by omega)).mono ?_
    rintro e w1 ⟨v, rfl, o1, ok, bad⟩
    have B1 := hide (B.out.mono o1)
    clear B o1 C1
    by_cases hs : soundZ lo hi mo es = 0
    · rw [hs] at C2 ok bad ⊢
      have N64 := NS.out hs
      have C8 := hide (C3.out hs k xs)
      clear C3 NS hs
      obtain ⟨g, cg, rest, rfl, _, RB⟩ := ok rfl
      have LN := hide (LC.out xs)
      rw [LN.out]
      obtain ⟨S, hS⟩ : ∃ S, S = SV.of k (sumZ lo hi xs) (zN (sqZ lo hi xs)) := ⟨_, rfl⟩
      rw [← hS] at C8 ⊢
      generalize cntL lo hi es xs = bs at C8 LN RB
      clear hS ok bad LC
      have RB1 := hide (rd_own RB)
      clear RB
      unfold sv at C8 ⊢
      have D1 : Hid (Ds w w1.heap.size [.int .i64 lo, .int .i64 hi, .int .i64 mo, .slice a n cap] [.slice (some ⟨g, 0, none⟩) (n + 1) cg, .int .i64 S.cnt, .int .u64 (S.sh : Nat), .int .u64 (S.sl : Nat), .int .u64 (S.qh : Nat), .int .u64 (S.ql : Nat), .bool S.neg] (w1.alloc (.cells [.slice (some ⟨g, 0, none⟩) (n + 1) cg, .int .i64 S.cnt, .int .u64 (S.sh : Nat), .int .u64 (S.sl : Nat), .int .u64 (S.qh : Nat), .int .u64 (S.ql : Nat), .bool S.neg].toArray 29))) := ⟨B1.out.row.mono (Old.of_alloc _ _), Row.new _ _ _, B1.out.old.trans (Old.of_alloc _ _)⟩
      have RB2 := hide (RB1.out.mono (Old.of_alloc w1 (.cells [.slice (some ⟨g, 0, none⟩) (n + 1) cg, .int .i64 S.cnt, .int .u64 (S.sh : Nat), .int .u64 (S.sl : Nat), .int .u64 (S.qh : Nat), .int .u64 (S.ql : Nat), .bool S.neg].toArray 29)))
      clear RB1
      have p0 := D1.out.pl.cell (i := 0) rfl
      have p1 := D1.out.pl.cell (i := 1) rfl
      have p2 := D1.out.pl.cell (i := 2) rfl
      have p3 := D1.out.pl.cell (i := 3) rfl
      go_wp2_with fail
      refine (C2.out _ (HF.out.mono D1.out.old)).mono ?_
      rintro e w2 ⟨rfl, o2⟩
      have Q : Hid (Ds w w1.heap.size [.int .i64 lo, .int .i64 hi, .int .i64 mo, .slice a n cap] [.slice (some ⟨g, 0, none⟩) (n + 1) cg, .int .i64 S.cnt, .int .u64 (S.sh : Nat), .int .u64 (S.sl : Nat), .int .u64 (S.qh : Nat), .int .u64 (S.ql : Nat), .bool S.neg] w2 ∧ Rd w2 (some ⟨g, 0, none⟩) (ints bs)) := ⟨D1.out.mono o2, RB2.out.mono o2⟩
      clear D1 RB2 o2 B1 C2 p0 p1 p2 p3
      revert Q
      generalize w1.heap.size = gs
      intro Q
      go_wp2_with fail
      refine Ssz.region (Ext := Old) 12 (fun w' => Ds w gs [.int .i64 lo, .int .i64 hi, .int .i64 mo, .slice a n cap] [.slice (some ⟨g, 0, none⟩) (n + 1) cg, .int .i64 S.cnt, .int .u64 (S.sh : Nat), .int .u64 (S.sl : Nat), .int .u64 (S.qh : Nat), .int .u64 (S.ql : Nat), .bool S.neg] w' ∧ Rd w' (some ⟨g, 0, none⟩) (ints bs)) (Ssz.Apart []) [34, 35, 36, 37, 38, 39, 40, 41, 42, 43, 44, 45]
        [(34, Ssx.cst (.bool true)), (35, Ssx.cst (.bool true)), (36, Ssx.cst (.int .i64 0)), (37, Ssx.cst (.bool true)), (38, Ssx.cst (.bool true)), (39, Ssx.cst (.bool true)), (40, Ssx.cst (.agg #[.slice (some ⟨g, 0, none⟩) (n + 1) cg, .int .i64 S.cnt, .int .u64 (S.sh : Nat), .int .u64 (S.sl : Nat), .int .u64 (S.qh : Nat), .int .u64 (S.ql : Nat), .bool S.neg])), (41, Ssx.cst (.agg #[.int .i64 lo, .int .i64 hi, .int .i64 mo, .slice a n cap])), (42, Ssx.cst (.slice b k ck)), (43, (⟨fun v w' => ∃ g2, v = .agg #[.slice (some ⟨g2, 0, none⟩) (n + 1) (n + 1), .int .i64 S.cnt, .int .u64 (S.sh : Nat), .int .u64 (S.sl : Nat), .int .u64 (S.qh : Nat), .int .u64 (S.ql : Nat), .bool S.neg] ∧ Row w' g2 3 (ints bs), fun _ _ _ ⟨g2, h1, h2⟩ o => ⟨g2, h1, h2.mono o⟩⟩ : Ssx.XP Old)), (44, Ssx.cst (.bool true)), (45, Ssx.cst (.bool true))]
        [(35, some true), (39, some true)] (by kernel_rfl) (by kernel_rfl) (by kernel_rfl) (by simp) (by kernel_rfl) (by intro p hp; simp only [List.mem_cons, List.not_mem_nil, or_false] at hp; rcases hp with rfl | rfl <;> exact fun v w => Iff.rfl) (by kernel_rfl) (by kernel_rfl) Old.refl (⟨Q.out.1.mono (Old.of_drewN _ _), Q.out.2.mono (Old.of_drewN _ _)⟩) ?apart ?good ?behind
      case apart => exact ⟨fun s hs => by simp at hs, fun s hs => by simp at hs⟩
      case good =>
        have hE : ∀ w w' : World, Old w w' → w.heap.size ≤ w'.heap.size := fun _ _ h => h.size
        refine And.intro (.inr ⟨by kernel_rfl, Ssz.keep (Ssx.call rfl fun a' w' hC hop => ⟨10, #[], ?_, (C0.out w').mono fun _ _ ⟨h1, h2⟩ => ⟨_, h1, ⟨hC.1.mono h2, hC.2.mono h2⟩, h2, rfl⟩⟩) hE (by kernel_rfl)⟩) ?_
        · simp [go_sem]
        refine And.intro (.inr ⟨by kernel_rfl, Ssz.keep (Ssx.mv Old.refl rfl rfl (fun _ _ h => h)) hE (by kernel_rfl)⟩) ?_
        refine And.intro (.inr ⟨by kernel_rfl, Ssz.keep (Ssx.mv Old.refl rfl rfl (fun _ _ h => h)) hE (by kernel_rfl)⟩) ?_
        refine And.intro (.inr ⟨by kernel_rfl, Ssz.keep (Ssx.val1 Old.refl (x := 36) (.int .i64 0) (by simp [Op.operands]) rfl (fun _ _ h => h) (fun ρ h1 hc w => by unfold execOp; simp [h1, hc, go_sem]) (fun _ => rfl)) hE (by kernel_rfl)⟩) ?_
        refine And.intro (.inr ⟨by kernel_rfl, Ssz.keep (Ssx.and Old.refl rfl rfl (fun _ _ h => h) (fun _ _ h => h)) hE (by kernel_rfl)⟩) ?_
        refine And.intro (.inr ⟨by kernel_rfl, Ssz.keep (Ssx.mv Old.refl rfl rfl (fun _ _ h => h)) hE (by kernel_rfl)⟩) ?_
        refine And.intro (.inr ⟨by kernel_rfl, Ssz.keep (Ssx.whole Old.refl rfl rfl (gs) ([.slice (some ⟨g, 0, none⟩) (n + 1) cg, .int .i64 S.cnt, .int .u64 (S.sh : Nat), .int .u64 (S.sl : Nat), .int .u64 (S.qh : Nat), .int .u64 (S.ql : Nat), .bool S.neg]) (fun _ _ h => h) (fun _ h => h.1.st.rngX) Try.underlying29 rfl infoSt (fun _ => rfl)) hE (by kernel_rfl)⟩) ?_
        refine And.intro (.inr ⟨by kernel_rfl, Ssz.keep (Ssx.whole Old.refl rfl rfl (w.heap.size) ([.int .i64 lo, .int .i64 hi, .int .i64 mo, .slice a n cap]) (fun _ _ h => h) (fun _ h => h.1.pl.rngX) Try.underlying24 rfl infoPl (fun _ => rfl)) hE (by kernel_rfl)⟩) ?_
        refine And.intro (.inr ⟨by kernel_rfl, Ssz.keep (Ssx.mv Old.refl rfl rfl (fun _ _ h => h)) hE (by kernel_rfl)⟩) ?_
        refine And.intro (.inr ⟨by kernel_rfl, Ssz.keep (Ssx.call rfl fun a' w' hC hop => ⟨12, #[.agg #[.int .i64 lo, .int .i64 hi, .int .i64 mo, .slice a n cap], .slice b k ck], ?_, (C8.out w' (HF.out.mono hC.1.old) (S1.out.mono hC.1.old)).mono fun _ _ ⟨g2, _, h1, h2, h3⟩ => ⟨_, h1, ⟨hC.1.mono h3, hC.2.mono h3⟩, h3, ⟨g2, rfl, h2⟩⟩⟩) hE (by kernel_rfl)⟩) ?_
        · have h0 : a'.eval (.tmp 41) = .agg #[.int .i64 lo, .int .i64 hi, .int .i64 mo, .slice a n cap] := hop 41 (by simp [Op.operands, Call.operands])
          have h1 : a'.eval (.tmp 42) = .slice b k ck := hop 42 (by simp [Op.operands, Call.operands])
          simp [Act.eval] at h0 h1
          simp [h0, h1, go_sem]
        refine And.intro (.inr ⟨by kernel_rfl, Ssz.keep (Ssx.call rfl fun a' w' hC hop => by
            obtain ⟨g2, hg2, RC⟩ := hop 43 (by simp [Op.operands, Call.operands])
            have h0 : a'.eval (.tmp 40) = .agg #[.slice (some ⟨g, 0, none⟩) (n + 1) cg, .int .i64 S.cnt, .int .u64 (S.sh : Nat), .int .u64 (S.sl : Nat), .int .u64 (S.qh : Nat), .int .u64 (S.ql : Nat), .bool S.neg] := hop 40 (by simp [Op.operands, Call.operands])
            refine ⟨11, #[.agg #[.slice (some ⟨g, 0, none⟩) (n + 1) cg, .int .i64 S.cnt, .int .u64 (S.sh : Nat), .int .u64 (S.sl : Nat), .int .u64 (S.qh : Nat), .int .u64 (S.ql : Nat), .bool S.neg], .agg #[.slice (some ⟨g2, 0, none⟩) (n + 1) (n + 1), .int .i64 S.cnt, .int .u64 (S.sh : Nat), .int .u64 (S.sl : Nat), .int .u64 (S.qh : Nat), .int .u64 (S.ql : Nat), .bool S.neg]], ?_, (ref_same_self (s := S) (xs := bs) cg (n + 1) w' (by omega) LN.out hC.2 RC.rd).mono fun _ _ ⟨h1, h2⟩ => ⟨_, h1, ⟨hC.1.mono h2, hC.2.mono h2⟩, h2, rfl⟩⟩
            simp [Act.eval] at h0 hg2
            simp [h0, hg2, go_sem]) hE (by kernel_rfl)⟩) ?_
        refine And.intro (.inr ⟨by kernel_rfl, Ssz.keep (Ssx.and Old.refl rfl rfl (fun _ _ h => h) (fun _ _ h => h)) hE (by kernel_rfl)⟩) ?_
        exact trivial
      case behind =>
        intro vals wb hC hD hv
        have u34 : vals 34 = _ := hv _ (.head _)
        have u35 : vals 35 = _ := hv _ (.tail _ (.head _))
        have u36 : vals 36 = _ := hv _ (.tail _ (.tail _ (.head _)))
        have u37 : vals 37 = _ := hv _ (.tail _ (.tail _ (.tail _ (.head _))))
        have u38 : vals 38 = _ := hv _ (.tail _ (.tail _ (.tail _ (.tail _ (.head _)))))
        have u39 : vals 39 = _ := hv _ (.tail _ (.tail _ (.tail _ (.tail _ (.tail _ (.head _))))))
        have u40 : vals 40 = _ := hv _ (.tail _ (.tail _ (.tail _ (.tail _ (.tail _ (.tail _ (.head _)))))))
        have u41 : vals 41 = _ := hv _ (.tail _ (.tail _ (.tail _ (.tail _ (.tail _ (.tail _ (.tail _ (.head _))))))))
        have u42 : vals 42 = _ := hv _ (.tail _ (.tail _ (.tail _ (.tail _ (.tail _ (.tail _ (.tail _ (.tail _ (.head _)))))))))
        have u43 := hv _ (.tail _ (.tail _ (.tail _ (.tail _ (.tail _ (.tail _ (.tail _ (.tail _ (.tail _ (.head _))))))))))
        have u44 : vals 44 = _ := hv _ (.tail _ (.tail _ (.tail _ (.tail _ (.tail _ (.tail _ (.tail _ (.tail _ (.tail _ (.tail _ (.head _)))))))))))
        have u45 : vals 45 = _ := hv _ (.tail _ (.tail _ (.tail _ (.tail _ (.tail _ (.tail _ (.tail _ (.tail _ (.tail _ (.tail _ (.tail _ (.head _))))))))))))
        obtain ⟨g2, hg2, _⟩ := u43
        simp only [Ssa.putAll, List.map_cons, List.map_nil, List.foldl_cons, List.foldl_nil, List.setIfInBounds_toArray, List.set_cons_succ, List.set_cons_zero, u34, u35, u36, u37, u38, u39, u40, u41, u42, u44, u45, hg2, List.drop_succ_cons, List.drop_zero]
        have O := hC.1.old
        clear hC hD hv Q u34 u35 u36 u37 u38 u39 u40 u41 u42 u44 u45 hg2
        clear vals
        go_wp2
        go_ret
        exact ⟨rfl, O⟩
    · obtain ⟨a0, c0, rfl⟩ := bad hs
      unfold sv SV.zero
      simp only
      clear ok bad C3 NS LC
      revert C2
      generalize soundZ lo hi mo es = s at hs
      intro C2
      have t1 : (s == 0) = false := by simpa using hs
      have t2 : (s != 0) = true := by simpa using hs
      clear hs
      have D1 : Hid (Ds w w1.heap.size [.int .i64 lo, .int .i64 hi, .int .i64 mo, .slice a n cap] [.slice a0 0 c0, .int .i64 0, .int .u64 0, .int .u64 0, .int .u64 0, .int .u64 0, .bool false] (w1.alloc (.cells [.slice a0 0 c0, .int .i64 0, .int .u64 0, .int .u64 0, .int .u64 0, .int .u64 0, .bool false].toArray 29))) := ⟨B1.out.row.mono (Old.of_alloc _ _), Row.new _ _ _, B1.out.old.trans (Old.of_alloc _ _)⟩
      have p0 := D1.out.pl.cell (i := 0) rfl
      have p1 := D1.out.pl.cell (i := 1) rfl
      have p2 := D1.out.pl.cell (i := 2) rfl
      have p3 := D1.out.pl.cell (i := 3) rfl
      go_wp2_with fail
      refine (C2.out _ (HF.out.mono D1.out.old)).mono ?_
      rintro e w2 ⟨rfl, o2⟩
      have D2 := hide (D1.out.mono o2)
      clear D1 o2 B1 C2 p0 p1 p2 p3
      revert D2
      generalize w1.heap.size = gs
      intro D2

      go_wp2_with fail
      refine (C0.out _).mono ?_
      rintro e w4 ⟨rfl, o4⟩
      have D4 := hide (D2.out.mono o4)
      clear D2 o4 C0
      have s0 := D4.out.st.cell (i := 0) rfl
      have s1 := D4.out.st.cell (i := 1) rfl
      have s2 := D4.out.st.cell (i := 2) rfl
      have s3 := D4.out.st.cell (i := 3) rfl
      have s4 := D4.out.st.cell (i := 4) rfl
      have s5 := D4.out.st.cell (i := 5) rfl
      have s6 := D4.out.st.cell (i := 6) rfl
      have C7 := hide (ref_same_zero a0 c0)
      go_wp2_with fail
      refine (C7.out _).mono ?_
      rintro e w5 ⟨rfl, o5⟩
      have O := D4.out.old.trans o5
      clear D4 o5 s0 s1 s2 s3 s4 s5 s6
      go_wp2
      go_ret
      exact ⟨rfl, O⟩
end Go.Proofs.Ythaaajepolahfaa
