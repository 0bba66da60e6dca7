/-
  The walks of layer 13's statements, if the layer's calls are what they owe: StatsBack.
-/
import Derived.Test.YthaaajepolahfaaLaws13
import Derived.Test.YthaaajepolahfaaTimesN
import Derived.Test.YthaaajepolahfaaSsn
namespace Go.Proofs.Ythaaajepolahfaa
open Go.RowKit Pn
set_option linter.unusedVariables false

/-- A plan in its box. -/
structure Pb (w : World) (B : Nat) (pl : List Value) (wr : World) : Prop where
  pl : Row wr w.heap.size 24 pl
  sz : B ≤ wr.heap.size
  old : Old w wr
theorem Pb.mono {w : World} {B : Nat} {pl : List Value} {wr w' : World} (h : Pb w B pl wr) (o : Old wr w') : Pb w B pl w' := ⟨h.pl.mono o, Nat.le_trans h.sz o.size, h.old.trans o⟩

set_option maxRecDepth 100000 in
set_option maxHeartbeats 1500000 in
theorem walkK_StatsBack (K : StatsK) (v0 v1 : Value) (w : World) (w0 : IsPlan w v0) (w1 : IsSam w v1) :
    Calls Try.prog 5 #[v0, v1] w fun e w' => e = .returned (.bool true) ∧ Old w w' := by
  obtain ⟨lo, hi, mo, a, n, cap, es, rfl, F⟩ := w0
  obtain ⟨b, k, ck, xs, rfl, hkc, S0⟩ := w1
  have B := hide (Bx.start cap F)
  have HS := hide S0
  have HF := hide F
  have HE := hide F.len
  have HKL := hide S0.len
  have C0 := hide (awake13 K)
  have C2 := hide (fun (wr : World) (h : Fit wr lo hi mo a n es) => refSound10_any cap wr h)
  unfold pv at C2 ⊢
  have KK := hide K
  clear K F S0
  go_enter Try.func5, Try.ntmps5
  go_wp2_with fail
  refine (C2.out _ B.out.fit).mono ?_
  rintro e w1 ⟨rfl, o1⟩
  have B1 := hide (B.out.mono o1)
  clear B o1 C2
  by_cases hs : soundZ lo hi mo es = 0
  · rw [hs]
    by_cases hk : 300 < k
    · have t2 : decide ((300 : Int) < (k : Int)) = true := by simp; omega
      go_wp2_with fail
      refine (C0.out _).mono ?_
      rintro e w5 ⟨rfl, o5⟩
      have O := B1.out.old.trans o5
      clear B1 o5
      go_wp2
      go_ret
      exact ⟨rfl, O⟩
    · have t2 : decide ((300 : Int) < (k : Int)) = false := by simp; omega
      have hlh : lo ≤ hi := by have h2 := (sound_of hs).1; unfold bad1 at h2; omega
      have hpl : ∀ x : Int, plN lo hi x < 2 ^ bP lo hi := plN_lt hlh
      have hn := HE.out
      obtain ⟨bs, hbs⟩ : ∃ bs, bs = cntL lo hi es xs := ⟨_, rfl⟩
      obtain ⟨S, hS⟩ : ∃ S, S = SV.of (k : Nat) (sumZ lo hi xs) (zN (sqZ lo hi xs)) := ⟨_, rfl⟩
      obtain ⟨L, hL⟩ : ∃ L, L = lenN es (bP lo hi) := ⟨_, rfl⟩
      obtain ⟨VV, hVV⟩ : ∃ VV, VV = vecT lo hi es (bP lo hi) xs := ⟨_, rfl⟩
      have hx : xs.length < 4294967296 := by rw [HKL.out]; omega
      have hV1 : VV = vecM 1 lo hi es (bP lo hi) xs := by rw [hVV, vecM_one lo hi es (bP lo hi) xs hx]
      have C4 : Hid (∀ (wr : World), Fit wr lo hi mo a n es → Sam wr b k xs → Calls Try.prog 16 #[.agg #[.int .i64 lo, .int .i64 hi, .int .i64 mo, .slice a n cap], .slice b k ck] wr fun e w' => ∃ g, wr.heap.size ≤ g ∧ e = .returned (.slice (some ⟨g, 0, none⟩) L L) ∧ Row w' g 43 (nums .u32 VV) ∧ Old wr w') := fun wr h h2 => by
        rw [hL, hVV]
        exact refEncode12_any cap b k ck xs wr h hs h2
      have C5 : Hid (∀ (g : Nat) (wr : World), Fit wr lo hi mo a n es → Row wr g 43 (nums .u32 VV) → Calls Try.prog 13 #[.agg #[.int .i64 lo, .int .i64 hi, .int .i64 mo, .slice a n cap], .slice (some ⟨g, 0, none⟩) L L] wr fun e w' => StR wr w' e 0 S bs) := fun g wr h R => by
        have V : Vc wr (some ⟨g, 0, none⟩) L VV := ⟨by rw [hVV, vecT_length, hL], by
          have h1 := (sound_of hs).2.2
          have h2 := (sound_of hs).1
          have h3 := bits_40 (d := (hi - lo).toNat) (by unfold bad1 at h2; omega)
          rw [hL]
          unfold lenN bP
          unfold bad3 at h1
          omega, by rw [hVV]; exact vecT_lt lo hi es (bP lo hi) xs, R.rd⟩
        have := KK.out.decode lo hi mo a n cap es (some ⟨g, 0, none⟩) L L VV wr h V (Nat.le_refl _)
        have DE : decE (soundZ lo hi mo es) es (bP lo hi) L VV = 0 := by
          unfold decE
          rw [if_neg (by simpa using hs), if_neg (by simpa using hL), hV1, head_M]
          rfl
        have VS : SV.of (cnV n VV : Nat) (dsum lo n (bP lo hi) VV) (zN (dsq lo n (bP lo hi) VV)) = S := by
          rw [hV1, ← hn, cnV_M, dsum_M hlh hpl, dsq_M hlh hpl, HKL.out, hS, Nat.one_mul]
          simp
        have BS : binsV n VV = bs := by rw [hV1, ← hn, bins_M, hbs]
        rw [DE, VS, BS] at this
        exact this
      have C6 : Hid (∀ (wr : World), Fit wr lo hi mo a n es → Sam wr b k xs → Calls Try.prog 8 #[.agg #[.int .i64 lo, .int .i64 hi, .int .i64 mo, .slice a n cap], .slice b k ck] wr fun e w' => StR wr w' e 0 S bs) := fun wr h h2 => by
        have := KK.out.of lo hi mo a n cap es b k ck xs wr h h2 (by omega)
        rw [hs, ← hS, ← hbs] at this
        exact this
      have BL : Hid (bs.length ≤ 9223372036854775807) := by
        have h1 := (sound_of hs).2.2
        rw [hbs, Hid, cntL_length]
        unfold bad3 at h1
        omega
      clear hlh hpl hn hbs hS hL hVV hV1 hx
      go_wp2_with fail
      have P0 : Hid (Pb w w1.heap.size [.int .i64 lo, .int .i64 hi, .int .i64 mo, .slice a n cap] w1) := ⟨B1.out.row, Nat.le_refl _, B1.out.old⟩
      clear B1
      refine Ssm.region (Ext := Ssm.Kp (w1.heap.size) 29) 10 9 (fun w' => Pb w w1.heap.size [.int .i64 lo, .int .i64 hi, .int .i64 mo, .slice a n cap] w') (Ssm.MkX 5 (w1.heap.size) 29 (stz) ((⟨fun v w' => ∃ g cg rest, v = .agg #[.slice (some ⟨g, 0, none⟩) bs.length cg, .int .i64 S.cnt, .int .u64 (S.sh : Nat), .int .u64 (S.sl : Nat), .int .u64 (S.qh : Nat), .int .u64 (S.ql : Nat), .bool S.neg] ∧ Row w' g 3 (ints bs ++ rest), fun _ _ _ ⟨g, cg, rest, h1, h2⟩ o => ⟨g, cg, rest, h1, o.row _ _ _ (by decide) h2⟩⟩ : Ssx.XP (Ssm.Kp w1.heap.size 29)))) [19, 20, 21, 22, 23, 18, 24, 25, 5]
        [(19, Ssx.cst (.agg #[.int .i64 lo, .int .i64 hi, .int .i64 mo, .slice a n cap])), (20, Ssx.cst (.agg #[.int .i64 lo, .int .i64 hi, .int .i64 mo, .slice a n cap])), (21, Ssx.cst (.slice b k ck)), (22, (⟨fun v w' => ∃ g, v = .slice (some ⟨g, 0, none⟩) L L ∧ Row w' g 43 (nums .u32 VV), fun _ _ _ ⟨g, h1, h2⟩ o => ⟨g, h1, o.row _ _ _ (by decide) h2⟩⟩ : Ssx.XP (Ssm.Kp w1.heap.size 29))), (23, (⟨fun v w' => ∃ g cg rest, v = .tuple #[.agg #[.slice (some ⟨g, 0, none⟩) bs.length cg, .int .i64 S.cnt, .int .u64 (S.sh : Nat), .int .u64 (S.sl : Nat), .int .u64 (S.qh : Nat), .int .u64 (S.ql : Nat), .bool S.neg], .int .i64 0] ∧ Row w' g 3 (ints bs ++ rest), fun _ _ _ ⟨g, cg, rest, h1, h2⟩ o => ⟨g, cg, rest, h1, o.row _ _ _ (by decide) h2⟩⟩ : Ssx.XP (Ssm.Kp w1.heap.size 29))), (18, (⟨fun v w' => ∃ g cg rest, v = .tuple #[.agg #[.slice (some ⟨g, 0, none⟩) bs.length cg, .int .i64 S.cnt, .int .u64 (S.sh : Nat), .int .u64 (S.sl : Nat), .int .u64 (S.qh : Nat), .int .u64 (S.ql : Nat), .bool S.neg], .int .i64 0] ∧ Row w' g 3 (ints bs ++ rest), fun _ _ _ ⟨g, cg, rest, h1, h2⟩ o => ⟨g, cg, rest, h1, o.row _ _ _ (by decide) h2⟩⟩ : Ssx.XP (Ssm.Kp w1.heap.size 29))), (24, (⟨fun v w' => ∃ g cg rest, v = .agg #[.slice (some ⟨g, 0, none⟩) bs.length cg, .int .i64 S.cnt, .int .u64 (S.sh : Nat), .int .u64 (S.sl : Nat), .int .u64 (S.qh : Nat), .int .u64 (S.ql : Nat), .bool S.neg] ∧ Row w' g 3 (ints bs ++ rest), fun _ _ _ ⟨g, cg, rest, h1, h2⟩ o => ⟨g, cg, rest, h1, o.row _ _ _ (by decide) h2⟩⟩ : Ssx.XP (Ssm.Kp w1.heap.size 29))), (25, Ssx.cst (.int .i64 0)), (5, (⟨fun v _ => ∃ g, v = .pointer (some ⟨g, 0, none⟩), fun _ _ _ h _ => h⟩ : Ssx.XP (Ssm.Kp w1.heap.size 29)))]
        [] (by kernel_rfl) (by kernel_rfl) (by kernel_rfl) (by simp) (by decide) (by kernel_rfl) (by intro p hp; cases hp) (by kernel_rfl) (by kernel_rfl) (Ssm.Kp.refl _ _) (P0.out.mono (Old.of_drewN _ _)) (Ssm.MkX.none rfl) ?good ?behind
      case good =>
        have hB : ∀ w' : World, (fun w' => Pb w w1.heap.size [.int .i64 lo, .int .i64 hi, .int .i64 mo, .slice a n cap] w') w' → (w1.heap.size) ≤ w'.heap.size := fun _ h => h.sz
        refine And.intro (Ssm.ask_free (by decide) (fun _ => ⟨by kernel_rfl, Ssm.keepX (Ssx.whole Old.refl rfl rfl (w.heap.size) ([.int .i64 lo, .int .i64 hi, .int .i64 mo, .slice a n cap]) (fun _ _ h => h) (fun _ h => h.pl.rngX) Try.underlying24 rfl infoPl (fun _ => rfl)) hB (by kernel_rfl)⟩)) ?_
        refine And.intro (Ssm.ask_free (by decide) (fun _ => ⟨by kernel_rfl, Ssm.keepX (Ssx.whole Old.refl rfl rfl (w.heap.size) ([.int .i64 lo, .int .i64 hi, .int .i64 mo, .slice a n cap]) (fun _ _ h => h) (fun _ h => h.pl.rngX) Try.underlying24 rfl infoPl (fun _ => rfl)) hB (by kernel_rfl)⟩)) ?_
        refine And.intro (Ssm.ask_free (by decide) (fun _ => ⟨by kernel_rfl, Ssm.keepX (Ssx.mv Old.refl rfl rfl (fun _ _ h => h)) hB (by kernel_rfl)⟩)) ?_
        refine And.intro (Ssm.ask_free (by decide) (fun _ => ⟨by kernel_rfl, Ssm.keepX (Ssx.call rfl fun a' w' hC hop => ⟨16, #[.agg #[.int .i64 lo, .int .i64 hi, .int .i64 mo, .slice a n cap], .slice b k ck], ?_, (C4.out w' (HF.out.mono hC.old) (HS.out.mono hC.old)).mono fun _ _ ⟨g, _, h1, h2, h3⟩ => ⟨_, h1, hC.mono h3, h3, ⟨g, rfl, h2⟩⟩⟩) hB (by kernel_rfl)⟩)) ?_
        · have h0 : a'.eval (.tmp 20) = .agg #[.int .i64 lo, .int .i64 hi, .int .i64 mo, .slice a n cap] := hop 20 (by simp [Op.operands, Call.operands])
          have h1 : a'.eval (.tmp 21) = .slice b k ck := hop 21 (by simp [Op.operands, Call.operands])
          simp [Act.eval] at h0 h1
          simp [h0, h1, go_sem]
        refine And.intro (Ssm.ask_free (by decide) (fun _ => ⟨by kernel_rfl, Ssm.keepX (Ssx.call rfl fun a' w' hC hop => by
          obtain ⟨g, hg, RV⟩ := hop 22 (by simp [Op.operands, Call.operands])
          have h0 : a'.eval (.tmp 19) = .agg #[.int .i64 lo, .int .i64 hi, .int .i64 mo, .slice a n cap] := hop 19 (by simp [Op.operands, Call.operands])
          refine ⟨13, #[.agg #[.int .i64 lo, .int .i64 hi, .int .i64 mo, .slice a n cap], .slice (some ⟨g, 0, none⟩) L L], ?_, (C5.out g w' (HF.out.mono hC.old) RV).mono fun _ _ ⟨v, h1, h2, h3, _⟩ => ?_⟩
          · simp [Act.eval] at h0 hg
            simp [h0, hg, go_sem]
          · obtain ⟨g2, cg, rest, rfl, _, RB⟩ := h3 rfl
            exact ⟨_, h1, hC.mono h2, h2, ⟨g2, cg, rest, rfl, RB⟩⟩) hB (by kernel_rfl)⟩)) ?_
        refine And.intro (Ssm.ask_free (by decide) (fun _ => ⟨by kernel_rfl, Ssm.keepX (Ssx.mv Old.refl rfl rfl (fun _ _ h => h)) hB (by kernel_rfl)⟩)) ?_
        refine And.intro (Ssm.ask_free (by decide) (fun _ => ⟨by kernel_rfl, Ssm.keepX (ex_ext Old.refl 0 rfl rfl (fun _ _ ⟨g, cg, rest, h1, h2⟩ => ⟨_, _, h1, rfl, ⟨g, cg, rest, rfl, h2⟩⟩)) hB (by kernel_rfl)⟩)) ?_
        refine And.intro (Ssm.ask_free (by decide) (fun _ => ⟨by kernel_rfl, Ssm.keepX (ex_ext Old.refl 1 rfl rfl (fun _ _ ⟨g, cg, rest, h1, h2⟩ => ⟨_, _, h1, rfl, rfl⟩)) hB (by kernel_rfl)⟩)) ?_
        refine And.intro (Ssm.ask_early (by decide) (by kernel_rfl) (by kernel_rfl) (Ssm.allocX rfl rfl (fun w => by kernel_rfl) (fun _ h => h.mono (Old.of_alloc _ _)) hB (fun g w => ⟨g, rfl⟩))) ?_
        refine And.intro (Ssm.ask_mark (by decide) (by kernel_rfl) (Ssm.storeX rfl rfl (fun _ _ h => h) (fun v w ⟨g, cg, rest, h1, h2⟩ => ⟨[.slice (some ⟨g, 0, none⟩) bs.length cg, .int .i64 S.cnt, .int .u64 (S.sh : Nat), .int .u64 (S.sl : Nat), .int .u64 (S.qh : Nat), .int .u64 (S.ql : Nat), .bool S.neg], h1, ⟨g, cg, rest, h1, h2⟩, infoSt, rfl, by intro v hv; simp at hv; rcases hv with rfl | rfl | rfl | rfl | rfl | rfl | rfl <;> rfl⟩) (fun w' g cs h hB R => ⟨h.pl.grown (grown_setRow _ _ _) (by have := P0.out.pl.lt; omega), by have := h.sz; simpa using this, h.old.grown (grown_setRow _ _ _) (by have := P0.out.old.size; omega)⟩) hB)) ?_
        exact trivial
      case behind =>
        intro vals wb hC hD hv
        have u19 : vals 19 = _ := hv _ (.head _)
        have u20 : vals 20 = _ := hv _ (.tail _ (.head _))
        have u21 : vals 21 = _ := hv _ (.tail _ (.tail _ (.head _)))
        have u22 := hv _ (.tail _ (.tail _ (.tail _ (.head _))))
        have u23 := hv _ (.tail _ (.tail _ (.tail _ (.tail _ (.head _)))))
        have u18 := hv _ (.tail _ (.tail _ (.tail _ (.tail _ (.tail _ (.head _))))))
        have u24 := hv _ (.tail _ (.tail _ (.tail _ (.tail _ (.tail _ (.tail _ (.head _)))))))
        have u25 : vals 25 = _ := hv _ (.tail _ (.tail _ (.tail _ (.tail _ (.tail _ (.tail _ (.tail _ (.head _))))))))
        have u5 := hv _ (.tail _ (.tail _ (.tail _ (.tail _ (.tail _ (.tail _ (.tail _ (.tail _ (.head _)))))))))
        obtain ⟨x22, e22, _⟩ := u22
        obtain ⟨x23, y23, _, e23, _⟩ := u23
        obtain ⟨x18, y18, _, e18, _⟩ := u18
        obtain ⟨x24, y24, _, e24, _⟩ := u24
        obtain ⟨gs, hgs⟩ := u5
        simp only [Ssa.putAll, List.map_cons, List.map_nil, List.foldl_cons, List.foldl_nil, List.setIfInBounds_toArray, List.set_cons_succ, List.set_cons_zero, u19, u20, u21, u25, e22, e23, e18, e24, hgs, List.drop_succ_cons, List.drop_zero] at hD ⊢
        have hD2 := hD _ rfl
        simp only [if_true] at hD2
        obtain ⟨gs', hg', _, cs, ⟨g, cg, rest, hcs, RB⟩, RS⟩ := hD2
        obtain rfl : gs = gs' := by simpa using hg'
        obtain rfl : cs = [.slice (some ⟨g, 0, none⟩) bs.length cg, .int .i64 S.cnt, .int .u64 (S.sh : Nat), .int .u64 (S.sl : Nat), .int .u64 (S.qh : Nat), .int .u64 (S.ql : Nat), .bool S.neg] := by
          have := Value.agg.inj hcs
          simpa using congrArg Array.toList this
        have D1 : Hid (Ds w gs [.int .i64 lo, .int .i64 hi, .int .i64 mo, .slice a n cap] [.slice (some ⟨g, 0, none⟩) bs.length cg, .int .i64 S.cnt, .int .u64 (S.sh : Nat), .int .u64 (S.sl : Nat), .int .u64 (S.qh : Nat), .int .u64 (S.ql : Nat), .bool S.neg] wb ∧ Rd wb (some ⟨g, 0, none⟩) (ints bs)) := ⟨⟨hC.pl, RS, hC.old⟩, rd_own RB⟩
        clear hC hD hv P0 u19 u20 u21 u25 e22 e23 e18 e24 hgs hcs RS RB C4 C5
        have p0 := D1.out.1.pl.cell (i := 0) rfl
        have p1 := D1.out.1.pl.cell (i := 1) rfl
        have p2 := D1.out.1.pl.cell (i := 2) rfl
        have p3 := D1.out.1.pl.cell (i := 3) rfl
        go_wp2_with fail
        refine (C6.out _ (HF.out.mono D1.out.1.old) (HS.out.mono D1.out.1.old)).mono ?_
        rintro e w2 ⟨v, rfl, o2, ok, _⟩
        obtain ⟨g2, cg2, rest2, rfl, _, RC⟩ := ok rfl
        have RC1 := rd_own RC
        unfold sv
        have D2 : Hid (Ds w gs [.int .i64 lo, .int .i64 hi, .int .i64 mo, .slice a n cap] [.slice (some ⟨g, 0, none⟩) bs.length cg, .int .i64 S.cnt, .int .u64 (S.sh : Nat), .int .u64 (S.sl : Nat), .int .u64 (S.qh : Nat), .int .u64 (S.ql : Nat), .bool S.neg] (w2.alloc (.cells [.slice (some ⟨g2, 0, none⟩) bs.length cg2, .int .i64 S.cnt, .int .u64 (S.sh : Nat), .int .u64 (S.sl : Nat), .int .u64 (S.qh : Nat), .int .u64 (S.ql : Nat), .bool S.neg].toArray 29)) ∧ Rd (w2.alloc (.cells [.slice (some ⟨g2, 0, none⟩) bs.length cg2, .int .i64 S.cnt, .int .u64 (S.sh : Nat), .int .u64 (S.sl : Nat), .int .u64 (S.qh : Nat), .int .u64 (S.ql : Nat), .bool S.neg].toArray 29)) (some ⟨g, 0, none⟩) (ints bs) ∧ Row (w2.alloc (.cells [.slice (some ⟨g2, 0, none⟩) bs.length cg2, .int .i64 S.cnt, .int .u64 (S.sh : Nat), .int .u64 (S.sl : Nat), .int .u64 (S.qh : Nat), .int .u64 (S.ql : Nat), .bool S.neg].toArray 29)) w2.heap.size 29 [.slice (some ⟨g2, 0, none⟩) bs.length cg2, .int .i64 S.cnt, .int .u64 (S.sh : Nat), .int .u64 (S.sl : Nat), .int .u64 (S.qh : Nat), .int .u64 (S.ql : Nat), .bool S.neg] ∧ Rd (w2.alloc (.cells [.slice (some ⟨g2, 0, none⟩) bs.length cg2, .int .i64 S.cnt, .int .u64 (S.sh : Nat), .int .u64 (S.sl : Nat), .int .u64 (S.qh : Nat), .int .u64 (S.ql : Nat), .bool S.neg].toArray 29)) (some ⟨g2, 0, none⟩) (ints bs)) := ⟨(D1.out.1.mono o2).mono (Old.of_alloc _ _), (D1.out.2.mono o2).mono (Old.of_alloc _ _), Row.new _ _ _, RC1.mono (Old.of_alloc _ _)⟩
        clear D1 o2 ok RC RC1 C6 p0 p1 p2 p3
        go_wp2_with fail
        refine (C0.out _).mono ?_
        rintro e w3 ⟨rfl, o3⟩
        have D3 : Hid (Ds w gs [.int .i64 lo, .int .i64 hi, .int .i64 mo, .slice a n cap] [.slice (some ⟨g, 0, none⟩) bs.length cg, .int .i64 S.cnt, .int .u64 (S.sh : Nat), .int .u64 (S.sl : Nat), .int .u64 (S.qh : Nat), .int .u64 (S.ql : Nat), .bool S.neg] w3 ∧ Rd w3 (some ⟨g, 0, none⟩) (ints bs) ∧ Row w3 w2.heap.size 29 [.slice (some ⟨g2, 0, none⟩) bs.length cg2, .int .i64 S.cnt, .int .u64 (S.sh : Nat), .int .u64 (S.sl : Nat), .int .u64 (S.qh : Nat), .int .u64 (S.ql : Nat), .bool S.neg] ∧ Rd w3 (some ⟨g2, 0, none⟩) (ints bs)) := ⟨D2.out.1.mono o3, D2.out.2.1.mono o3, D2.out.2.2.1.mono o3, D2.out.2.2.2.mono o3⟩
        clear D2 o3 C0
        revert D3
        generalize w2.heap.size = gt
        intro D3
        have C7 : Hid (∀ wr : World, Rd wr (some ⟨g, 0, none⟩) (ints bs) → Rd wr (some ⟨g2, 0, none⟩) (ints bs) → Calls Try.prog 17 #[.agg #[.slice (some ⟨g, 0, none⟩) bs.length cg, .int .i64 S.cnt, .int .u64 (S.sh : Nat), .int .u64 (S.sl : Nat), .int .u64 (S.qh : Nat), .int .u64 (S.ql : Nat), .bool S.neg], .agg #[.slice (some ⟨g2, 0, none⟩) bs.length cg2, .int .i64 S.cnt, .int .u64 (S.sh : Nat), .int .u64 (S.sl : Nat), .int .u64 (S.qh : Nat), .int .u64 (S.ql : Nat), .bool S.neg]] wr fun e w' => e = .returned (.bool true) ∧ Old wr w') := fun wr h1 h2 => by
          have := KK.out.same S S (some ⟨g, 0, none⟩) (some ⟨g2, 0, none⟩) bs.length bs.length cg cg2 bs bs wr BL.out BL.out rfl rfl h1 h2
          rw [decide_eq_true (And.intro rfl rfl)] at this
          exact this
        have C8 : Hid (∀ wr : World, Rd wr (some ⟨g, 0, none⟩) (ints bs) → Rd wr (some ⟨g2, 0, none⟩) (ints bs) → Calls Try.prog 11 #[.agg #[.slice (some ⟨g, 0, none⟩) bs.length cg, .int .i64 S.cnt, .int .u64 (S.sh : Nat), .int .u64 (S.sl : Nat), .int .u64 (S.qh : Nat), .int .u64 (S.ql : Nat), .bool S.neg], .agg #[.slice (some ⟨g2, 0, none⟩) bs.length cg2, .int .i64 S.cnt, .int .u64 (S.sh : Nat), .int .u64 (S.sl : Nat), .int .u64 (S.qh : Nat), .int .u64 (S.ql : Nat), .bool S.neg]] wr fun e w' => e = .returned (.bool true) ∧ Old wr w') := fun wr h1 h2 => ref_same_self cg cg2 wr BL.out rfl h1 h2
        have s0 := D3.out.1.st.cell (i := 0) rfl
        have s1 := D3.out.1.st.cell (i := 1) rfl
        have s2 := D3.out.1.st.cell (i := 2) rfl
        have s3 := D3.out.1.st.cell (i := 3) rfl
        have s4 := D3.out.1.st.cell (i := 4) rfl
        have s5 := D3.out.1.st.cell (i := 5) rfl
        have s6 := D3.out.1.st.cell (i := 6) rfl
        have t0 := D3.out.2.2.1.cell (i := 0) rfl
        have t1 := D3.out.2.2.1.cell (i := 1) rfl
        have t2 := D3.out.2.2.1.cell (i := 2) rfl
        have t3 := D3.out.2.2.1.cell (i := 3) rfl
        have t4 := D3.out.2.2.1.cell (i := 4) rfl
        have t5 := D3.out.2.2.1.cell (i := 5) rfl
        have t6 := D3.out.2.2.1.cell (i := 6) rfl
        go_wp2_with fail
        refine (C7.out _ D3.out.2.1 D3.out.2.2.2).mono ?_
        rintro e w4 ⟨rfl, o4⟩
        have D4 : Hid (Ds w gs [.int .i64 lo, .int .i64 hi, .int .i64 mo, .slice a n cap] [.slice (some ⟨g, 0, none⟩) bs.length cg, .int .i64 S.cnt, .int .u64 (S.sh : Nat), .int .u64 (S.sl : Nat), .int .u64 (S.qh : Nat), .int .u64 (S.ql : Nat), .bool S.neg] w4 ∧ Rd w4 (some ⟨g, 0, none⟩) (ints bs) ∧ Row w4 gt 29 [.slice (some ⟨g2, 0, none⟩) bs.length cg2, .int .i64 S.cnt, .int .u64 (S.sh : Nat), .int .u64 (S.sl : Nat), .int .u64 (S.qh : Nat), .int .u64 (S.ql : Nat), .bool S.neg] ∧ Rd w4 (some ⟨g2, 0, none⟩) (ints bs)) := ⟨D3.out.1.mono o4, D3.out.2.1.mono o4, D3.out.2.2.1.mono o4, D3.out.2.2.2.mono o4⟩
        clear D3 o4 C7 s0 s1 s2 s3 s4 s5 s6 t0 t1 t2 t3 t4 t5 t6
        have s0 := D4.out.1.st.cell (i := 0) rfl
        have s1 := D4.out.1.st.cell (i := 1) rfl
        have s2 := D4.out.1.st.cell (i := 2) rfl
        have s3 := D4.out.1.st.cell (i := 3) rfl
        have s4 := D4.out.1.st.cell (i := 4) rfl
        have s5 := D4.out.1.st.cell (i := 5) rfl
        have s6 := D4.out.1.st.cell (i := 6) rfl
        have t0 := D4.out.2.2.1.cell (i := 0) rfl
        have t1 := D4.out.2.2.1.cell (i := 1) rfl
        have t2 := D4.out.2.2.1.cell (i := 2) rfl
        have t3 := D4.out.2.2.1.cell (i := 3) rfl
        have t4 := D4.out.2.2.1.cell (i := 4) rfl
        have t5 := D4.out.2.2.1.cell (i := 5) rfl
        have t6 := D4.out.2.2.1.cell (i := 6) rfl
        go_wp2_with fail
        refine (C8.out _ D4.out.2.1 D4.out.2.2.2).mono ?_
        rintro e w5 ⟨rfl, o5⟩
        have O := D4.out.1.old.trans o5
        clear D4 o5 C8 s0 s1 s2 s3 s4 s5 s6 t0 t1 t2 t3 t4 t5 t6
        go_wp2
        go_ret
        exact ⟨rfl, O⟩
  · have t1 : (soundZ lo hi mo es != 0) = true := by simpa using hs
    go_wp2_with fail
    refine (C0.out _).mono ?_
    rintro e w5 ⟨rfl, o5⟩
    have O := B1.out.old.trans o5
    clear B1 o5
    go_wp2
    go_ret
    exact ⟨rfl, O⟩
end Go.Proofs.Ythaaajepolahfaa
