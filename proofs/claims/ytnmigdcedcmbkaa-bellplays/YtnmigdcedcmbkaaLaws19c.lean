/-
  Layer 19's statement BellPlays, if the layer's calls are what they owe.
-/
import Derived.Test.YtnmigdcedcmbkaaPlayM
import Derived.Deep.DeepCutAuto
import Derived.Deep.CutBlock
namespace Go.Proofs.Ytnmigdcedcmbkaa
open Go.RowKit Bl Pn
set_option linter.unusedVariables false

set_option maxRecDepth 100000 in
set_option maxHeartbeats 40000000 in
theorem walkK_BellPlays (K : BellK) (v0 : Value) (w : World) (w0 : IsStps w v0) :
    Calls Try.prog 3 #[v0] w fun e w' => e = .returned (.bool true) ∧ Old w w' := by
  obtain ⟨a, cap, sl, rfl, hcap, hn, rd, hb⟩ := w0
  have AW := hide (awake19 K)
  have N := hide (Bel.new K (Old.refl w))
  have HR := hide rd
  have HB := hide hb
  obtain ⟨len, hlen⟩ : ∃ len, sl.length = len := ⟨_, rfl⟩
  have HL := hide hlen
  rw [hlen] at hn hcap ⊢
  clear rd hb hcap hlen
  go_enter Try.func3, Try.ntmps3
  go_wp2_with fail
  refine N.out.mono ?_
  rintro e w1 ⟨g, rfl, b1⟩
  have B1 := hide b1
  clear b1 N
  go_wp2_with fail
  refine (AW.out _).mono ?_
  rintro e w2 ⟨rfl, o2⟩
  have B2 := hide (B1.out.mono o2)
  clear B1 o2 AW
  have P0 : Hid (PlW K w g (.slice (some ⟨w2.heap.size, 0, none⟩) 0 0) [] 0 (w2.alloc (.cells #[] 30))) :=
    ⟨B2.out.again (Old.of_alloc _ _) (fun q hq => ⟨.inr (by cases hq; exact Nat.le_refl _), by cases hq; exact (Row.new w2 30 []).lt⟩), OwnsM.empty w2 _ B2.out.old.size, by decide, Nat.le_refl _⟩
  clear B2
  go_wp2_with fail
  go_loopw [4, 5] (fun v vi wr => ∃ i : Nat, ∃ l : List Mk, i ≤ len ∧ i ≤ 80 ∧ vi = .int .i64 (i : Nat) ∧ Hid (PlW K w g v l i wr)) (fun _ vi _ => 80 - (intOf vi).toNat)
  case atStart => exact ⟨0, [], by omega, by omega, rfl, P0⟩
  case round =>
    clear P0
    obtain ⟨i, l, hi, hi80, rfl, P⟩ := hrel
    by_cases hlt : i < len ∧ i < 80
    · obtain ⟨h1, h2⟩ := hlt
      have li := hide (show i < sl.length by have := HL.out; omega)
      obtain ⟨b, off, rfl, c0, c1, c2⟩ := (HR.out.mono P.out.bel.old) i (sl[i]'li.out) (by simp [li.out])
      have hx := hide (HB.out (sl[i]'li.out) (List.getElem_mem li.out))
      revert c0 c1 c2 hx
      generalize sl[i]'li.out = x
      obtain ⟨xa, xw, xt⟩ := x
      intro c0 c1 c2 hx
      dsimp only at c0 c1 c2 hx
      have q0 : (0 : Int) ≤ i := by omega
      have q1 : (i : Int) < len := by omega
      have q2 : (i : Int) < 80 := by omega
      obtain ⟨la, lc, rfl, hlc, -⟩ := P.out.own.rd
      have HO := hide P.out.one
      obtain ⟨n, hln⟩ : ∃ n, l.length = n := ⟨_, rfl⟩
      have HLn := hide hln
      have hni : n ≤ i := by rw [← hln]; exact P.out.len
      have X0 := hide (PlX.start (xa := xa) (xw := xw) (xt := xt) P.out)
      rw [hln] at X0 hlc ⊢
      clear P hln hi li
      go_wp2_with fail
      generalize wr.heap.size = gx at X0 ⊢
      have K0 : Hid ((-1 : Int) = plcTo l xw 0 ∧ PlX K w g (.slice la n lc) l l gx xa xw xt (wr.alloc (.cells #[.int .i64 xa, .int .i64 xw, .int .i64 xt] 28))) := ⟨rfl, X0.out⟩
      clear X0 c0 c1 c2 q1 q2
      go_loopw [7, 8] (fun vk vj w9 => ∃ j : Nat, ∃ k : Int, j ≤ n ∧ vk = .int .i64 k ∧ vj = .int .i64 (j : Nat) ∧ Hid (k = plcTo l xw j ∧ PlX K w g (.slice la n lc) l l gx xa xw xt w9)) (fun _ vj _ => (n - intOf vj).toNat)
      case atStart => exact ⟨0, -1, by omega, rfl, rfl, K0⟩
      case round =>
        clear K0
        obtain ⟨j, k, hj, rfl, rfl, R⟩ := hrel
        by_cases hjn : j = n
        · subst hjn
          have X := hide R.out.2
          have C0 := X.out.c0
          have HK := hide R.out.1
          clear R hj
          go_upto_block 4 with fail
          go_cut [4] (fun v wc => ∃ (a2 : Option Addr) (n2 c2 : Nat) (l2 : List Mk), v = .slice a2 n2 c2 ∧ Hid (l2.length = n2) ∧ Hid (One1 l2) ∧ Hid (n2 ≤ i + 1) ∧ Hid (PlX K w g v l2 l2 gx xa xw xt wc))
          case first =>
            clear_value *
            by_cases x0 : xa = 0
            · have e0 : (xa == 0) = true := by rw [beq_iff_eq]; exact x0
              clear x0
              have C1 := X.out.c1
              have C2 := X.out.c2
              have h80 : l.length ≤ 1000 := by have := HLn.out; omega
              have C := hide (Bel.set X.out.bel xw xt HO.out h80 hx.out.2.1 hx.out.2.2)
              by_cases f0 : 0 ≤ xt ∧ xt ≤ 1099511627776
              · have d0 : decide (0 ≤ xt) = true := decide_eq_true f0.1
                have d1 : decide (xt ≤ 1099511627776) = true := decide_eq_true f0.2
                rw [show setE xt = 0 by unfold setE; rw [if_pos f0], if_pos rfl] at C
                clear f0
                rcases plc_cases l HO.out xw with ⟨k1, k2⟩ | ⟨ix, k1, k2, k3, k4, -, k6⟩
                · as_aux_lemma =>
                    have hk : k = -1 := by rw [HK.out, ← HLn.out]; exact k1
                    subst hk
                    have hs : setL l xw xt = l ++ [(xw, xt)] := by unfold setL; rw [k2, if_neg (by simp)]
                    have O1 : Hid (One1 (l ++ [(xw, xt)])) := by
                      show One1 _
                      rw [← hs]
                      exact HO.out.set xw xt
                    rw [hs] at C
                    clear hs k1 k2 HK
                    go_wp2_with fail
                    refine C.out.mono ?_
                    rintro e w6 ⟨rfl, b6, kk6⟩
                    have X6 := hide (X.out.call b6 kk6)
                    have D1 := X6.out.c1
                    have D2 := X6.out.c2
                    have X7 := hide (X6.out.mono (Old.of_alloc w6 (.cells #[.int .i64 xw, .int .i64 xt] 30)))
                    have OW := hide X7.out.own
                    have HY : Hid (Row (w6.alloc (.cells #[.int .i64 xw, .int .i64 xt] 30)) w6.heap.size 30 (mkCells (xw, xt))) := Row.new w6 30 [.int .i64 xw, .int .i64 xt]
                    have HZ := hide X7.out.bel.old.size
                    have HN : Hid (l.length < 1000000) := by show _ < _; omega
                    clear C b6 kk6 X X6 C0 C1 C2 h80
                    go_wp2_with (refine wp_appendM rfl _ _ rfl w.heap.size _ l rfl OW.out w6.heap.size 1 (xw, xt) rfl HY.out HN.out HZ.out ?_; rintro v2 w5 ow gr loc)
                    have X2 := hide (X7.out.turn gr ow loc)
                    clear ow gr loc X7 OW HY HZ HN D1 D2
                    obtain ⟨l2, hL2⟩ : ∃ l2, l2 = l ++ [(xw, xt)] := ⟨_, rfl⟩
                    have hn2 : Hid (l2.length = j + 1) := by show _ = _; rw [hL2, List.length_append, HLn.out]; rfl
                    rw [← hL2] at X2 O1
                    obtain ⟨a2, c2, hv2, -, -⟩ := X2.out.own.rd
                    have HN2 := hn2
                    have hl2 : Hid (j + 1 ≤ i + 1) := by show _ ≤ _; omega
                    rw [hn2.out] at hv2
                    subst hv2
                    have HO2 := O1
                    clear hL2 hn2 O1 HO HLn
                    go_wp2_with fail
                    go_meet
                    exact ⟨a2, (j + 1), c2, l2, rfl, HN2, HO2, hl2, X2⟩
                · as_aux_lemma =>
                    have hk : k = (ix : Int) := by rw [HK.out, ← HLn.out]; exact k2
                    subst hk
                    have O1 : Hid (One1 (l.set ix (xw, xt))) := by
                      show One1 _
                      rw [← k6]
                      exact HO.out.set xw xt
                    rw [k6] at C
                    have hix : ix < j := by rw [← HLn.out]; exact k1
                    have ix0 : (0 : Int) ≤ ix := by omega
                    have ix1 : (ix : Int) < j := by omega
                    have EQ : Hid (l.set ix ((l[ix]'k1).1, xt) = l.set ix (xw, xt)) := by
                      show _ = _
                      rw [← k4, show l.getD ix (0, 0) = l[ix] by simp [List.getD, k1]]
                    have HK1 := hide k1
                    clear HK k2 k3 k4 k6 h80
                    go_wp2_with fail
                    refine C.out.mono ?_
                    rintro e w6 ⟨rfl, b6, kk6⟩
                    have X6 := hide (X.out.call b6 kk6)
                    have D2 := X6.out.c2
                    obtain ⟨bz, oz, ez, z0, z1⟩ := (X6.out.rd HLn.out).at HK1.out
                    obtain ⟨gv, cv, rest, hv, y1, y2, y3, y4, RR⟩ := X6.out.own.row (by have := HK1.out; omega)
                    have hv' := hv
                    rw [HLn.out] at hv
                    cases hv
                    cases ez
                    rw [Nat.zero_add] at z0 z1
                    have hf := RR.free (ix * 2 + 1)
                    have X2 : Hid (PlX K w g (.slice (some ⟨bz, 0, none⟩) j lc) (l.set ix (xw, xt)) (l.set ix (xw, xt)) gx xa xw xt (w6.setCell ⟨bz, ix * 2 + 1, none⟩ (.int .i64 xt))) :=
                      X6.out.turn (grown_set w6 bz (ix * 2 + 1) (.int .i64 xt)) (by rw [← EQ.out]; exact OwnsM.setAt hv' y1 y2 y3 y4 RR ix HK1.out xt) (fun q hq => .inl hq)
                    have HN2 : Hid ((l.set ix (xw, xt)).length = j) := by show _ = _; rw [List.length_set]; exact HLn.out
                    have HO2 := O1
                    have hl2 : Hid (j ≤ i + 1) := by show _ ≤ _; omega
                    clear C b6 kk6 X X6 C0 C1 C2 hv' y1 y2 y3 y4 RR z0 EQ HK1 O1 HO HLn
                    go_wp2_with fail
                    go_meet
                    exact ⟨(some ⟨bz, 0, none⟩), j, lc, (l.set ix (xw, xt)), rfl, HN2, HO2, hl2, X2⟩
              · as_aux_lemma =>
                  have e2 : setE xt = 1 := by unfold setE; rw [if_neg f0]
                  rw [e2, if_neg (by decide)] at C
                  have HN2 := HLn
                  have HO2 := HO
                  have hl2 : Hid (j ≤ i + 1) := by show _ ≤ _; omega
                  have dd : decide (0 ≤ xt) = false ∨ (decide (0 ≤ xt) = true ∧ decide (xt ≤ 1099511627776) = false) := by
                    by_cases q : 0 ≤ xt
                    · exact .inr ⟨decide_eq_true q, decide_eq_false (by omega)⟩
                    · exact .inl (decide_eq_false q)
                  clear e2 f0 h80 HK HO HLn
                  rcases dd with d0 | ⟨d0, d1⟩
                  all_goals
                    go_wp2_with fail
                    refine C.out.mono ?_
                    rintro e w6 ⟨rfl, b6, kk6⟩
                    have X2 := hide (X.out.call b6 kk6)
                    clear C b6 kk6 X C0 C1 C2
                    go_wp2_with fail
                    go_meet
                    exact ⟨la, j, lc, l, rfl, HN2, HO2, hl2, X2⟩
            · have e0 : (xa == 0) = false := by rw [beq_eq_false_iff_ne]; exact x0
              by_cases x1 : xa = 1
              · have e1 : (xa == 1) = true := by rw [beq_iff_eq]; exact x1
                clear x0 x1
                have h80 : l.length ≤ 1000 := by have := HLn.out; omega
                have C := hide (Bel.stop X.out.bel xw HO.out h80 hx.out.2.1)
                rcases plc_cases l HO.out xw with ⟨k1, k2⟩ | ⟨ix, k1, k2, k3, k4, k5, -⟩
                · as_aux_lemma =>
                    have hk : k = -1 := by rw [HK.out, ← HLn.out]; exact k1
                    subst hk
                    rw [k2, stopL_none k2] at C
                    have C1 := X.out.c1
                    have HO2 := HO
                    have HN2 := HLn
                    have hl2 : Hid (j ≤ i + 1) := by
                      show _ ≤ _
                      omega
                    clear HK k1 k2 h80 HO HLn
                    go_wp2_with fail
                    refine C.out.mono ?_
                    rintro e w6 ⟨rfl, b6, kk6⟩
                    have X2 := hide (X.out.call b6 kk6)
                    clear C b6 kk6 X C0 C1
                    go_wp2_with fail
                    go_meet
                    exact ⟨la, j, lc, l, rfl, HN2, HO2, hl2, X2⟩
                · have hks : k = (ix : Int) := by rw [HK.out, ← HLn.out]; exact k2
                  subst hks
                  rw [k3, k5] at C
                  have C1 := X.out.c1
                  have hix : ix < j := by rw [← HLn.out]; exact k1
                  have ix0 : (0 : Int) ≤ ix := by omega
                  have O1 : Hid (One1 (l.take ix ++ l.drop (ix + 1))) := by
                    show One1 _
                    rw [← k5]
                    exact HO.out.stop xw
                  have CL := hide (cut_length (l := l) (j := ix) (by rw [HLn.out]; exact hix))
                  clear HK k1 k2 k3 k4 k5 h80
                  go_wp2_with fail
                  refine C.out.mono ?_
                  rintro e w6 ⟨rfl, b6, kk6⟩
                  have X := hide (X.out.call b6 kk6)
                  clear C b6 kk6 C0 C1
                  have mc := X.out.rd HLn.out
                  obtain ⟨bc, oc, hab, -, -⟩ := mc.at (i := ix) (by rw [HLn.out]; omega)
                  cases hab
                  have RC2 := hide mc
                  have HCC := hide hlc
                  have q0 : (0 : Int) ≤ ix := by omega
                  have q1 : (ix : Int) < j := by omega
                  clear mc
                  go_wp2_with fail
                  refine Sst.region (Ext := Old) 9 (fun w' : World => Old w6 w') (Ssz.Apart []) [106, 107, 108, 109, 110, 111, 112, 113, 114]
                    [(106, own0M (w6).heap.size), (107, Ssx.cst (.slice (some ⟨bc, oc, none⟩) j lc)), (108, Ssx.cst (.int .i64 (ix : Int))), (109, Ssx.cst (.slice (some ⟨bc, oc, none⟩) ix lc)), (110, ownM (w6).heap.size (l.take ix)),
                     (111, Ssx.cst (.slice (some ⟨bc, oc, none⟩) j lc)), (112, Ssx.cst (.int .i64 (ix : Int))), (113, Ssx.cst (.int .i64 ((ix : Int) + 1))), (114, Ssx.cst (.slice (some (cutAtM bc oc lc (ix + 1))) (j - (ix + 1)) (lc - (ix + 1))))]
                    [] (by kernel_rfl) (by kernel_rfl) (by kernel_rfl) (by simp) (by kernel_rfl) (by intro p hp; cases hp) (by kernel_rfl) (by kernel_rfl) Old.refl ((Old.refl _).drewN 1) ?apart ?good ?behind
                  case apart => exact ⟨fun s hs => by simp at hs, fun s hs => by simp at hs⟩
                  case good =>
                    have hE : ∀ w w' : World, Old w w' → w.heap.size ≤ w'.heap.size := fun _ _ h => h.size
                    have hB : ∀ w' : World, Old w6 w' → (w6).heap.size ≤ w'.heap.size := fun _ h => h.size
                    have hCo : ∀ w' w'' : World, Old w6 w' → Old w' w'' → Old w6 w'' := fun _ _ h1 h2 => h1.trans h2
                    refine And.intro (.inr ⟨by kernel_rfl, Ssz.keep (bld0M hB hCo rfl rfl (fun _ _ h => h)) hE (by kernel_rfl)⟩) ?_
                    refine And.intro (.inr ⟨by kernel_rfl, Ssz.keep (Ssx.mv Old.refl rfl rfl (fun _ _ h => h)) hE (by kernel_rfl)⟩) ?_
                    refine And.intro (.inr ⟨by kernel_rfl, Ssz.keep (Ssx.mv Old.refl rfl rfl (fun _ _ h => h)) hE (by kernel_rfl)⟩) ?_
                    refine And.intro (.inr ⟨by kernel_rfl, Ssz.keep (Ssx.val2 Old.refl (x := 107) (y := 108) (.slice (some ⟨bc, oc, none⟩) j lc) (.int .i64 (ix : Int)) (by simp [Op.operands]) (by simp [Op.operands]) rfl (fun _ _ h => h) (fun _ _ h => h) (fun ρ h1 h2 hc w => cutM_h (by have := HCC.out; omega) rfl h1 h2 w) (fun _ => rfl)) hE (by kernel_rfl)⟩) ?_
                    refine And.intro (.inr ⟨by kernel_rfl, Ssz.keep (app0M hB hCo rfl rfl ⟨bc, oc, none⟩ ix lc (l.take ix) (by rw [List.length_take, HLn.out]; omega) (by omega) (fun _ _ h => h) (fun _ _ h => h) (fun w' hC => mk_src ((RC2.out.mono hC).take ix)) (fun _ _ h => h)) hE (by kernel_rfl)⟩) ?_
                    refine And.intro (.inr ⟨by kernel_rfl, Ssz.keep (Ssx.mv Old.refl rfl rfl (fun _ _ h => h)) hE (by kernel_rfl)⟩) ?_
                    refine And.intro (.inr ⟨by kernel_rfl, Ssz.keep (Ssx.mv Old.refl rfl rfl (fun _ _ h => h)) hE (by kernel_rfl)⟩) ?_
                    refine And.intro (.inr ⟨by kernel_rfl, Ssz.keep (Ssx.val1 Old.refl (x := 112) (.int .i64 (ix : Int)) (by simp [Op.operands]) rfl (fun _ _ h => h) (fun ρ h1 hc w => by
                      have ew : IntKind.i64.wrap ((ix : Int) + 1) = (ix : Int) + 1 := by rw [IntKind.wrap_i64]; omega
                      unfold execOp
                      simp [h1, hc, go_sem, ew]) (fun _ => rfl)) hE (by kernel_rfl)⟩) ?_
                    refine And.intro (.inr ⟨by kernel_rfl, Ssz.keep (Ssx.val2 Old.refl (x := 111) (y := 113) (.slice (some ⟨bc, oc, none⟩) j lc) (.int .i64 ((ix : Int) + 1)) (by simp [Op.operands]) (by simp [Op.operands]) rfl (fun _ _ h => h) (fun _ _ h => h) (fun ρ h1 h2 hc w => cutM_l (by omega) HCC.out ((ix : Int) + 1) (by omega) rfl h1 h2 w) (fun _ => rfl)) hE (by kernel_rfl)⟩) ?_
                    exact trivial
                  case behind =>
                    intro vals w3 hC hD hv
                    have o4 : OwnsM w3 (w6).heap.size (vals 110) (l.take ix) := hv _ (.tail _ (.tail _ (.tail _ (.tail _ (.head _)))))
                    have v8 : vals 114 = _ := hv _ (.tail _ (.tail _ (.tail _ (.tail _ (.tail _ (.tail _ (.tail _ (.tail _ (.head _)))))))))
                    simp only [Ssa.putAll, List.map_cons, List.map_nil, List.foldl_cons, List.foldl_nil, List.setIfInBounds_toArray, List.set_cons_succ, List.set_cons_zero, v8, List.drop_succ_cons, List.drop_zero]
                    refine wp_appendMs rfl _ _ rfl (w6).heap.size (vals 110) (l.take ix) rfl o4 (cutAtM bc oc lc (ix + 1)) (j - (ix + 1)) (lc - (ix + 1)) (l.drop (ix + 1)) rfl (by rw [List.length_drop, HLn.out]) (cut_srcM (RC2.out.mono hC) (by rw [HLn.out]; exact HCC.out) (by rw [HLn.out]; omega)) (by rw [List.length_take, HLn.out]; omega) hC.size ?_
                    rintro v2 w5 ow gr
                    have OW5 : Old w6 w5 := Below.grown hC gr hC.size (fun g e => (o4.lt e).1)
                    have ow2 : OwnsM w5 w.heap.size v2 (l.take ix ++ l.drop (ix + 1)) := by
                      obtain ⟨e1, e2⟩ := ow
                      refine ⟨e1, e2.imp id ?_⟩
                      rintro ⟨g', cap', cur', y1, y2, y3⟩
                      exact ⟨g', cap', cur', y1, Nat.le_trans X.out.bel.old.size y2, y3⟩
                    have X2 := hide (X.out.turn (grown_old OW5 _) ow2 (fun q hq => .inr (ow.lt hq).1))
                    clear ow gr hC hD hv o4 v8 RC2 OW5 ow2 X
                    obtain ⟨l2, hL2⟩ : ∃ l2, l2 = l.take ix ++ l.drop (ix + 1) := ⟨_, rfl⟩
                    rw [← hL2] at X2 O1 CL
                    obtain ⟨a2, c2, hv2, -, -⟩ := X2.out.own.rd
                    obtain ⟨n2, hn2⟩ : ∃ n2, l2.length = n2 := ⟨_, rfl⟩
                    have HN2 := hide hn2
                    have hl2 : Hid (n2 ≤ i + 1) := by
                      have := CL.out
                      have := HLn.out
                      show _ ≤ _
                      omega
                    rw [hn2] at hv2
                    subst hv2
                    have HO2 := O1
                    clear hL2 hn2 CL O1 HO HLn
                    go_wp2_with fail
                    go_meet
                    exact ⟨a2, n2, c2, l2, rfl, HN2, HO2, hl2, X2⟩
              · have e1 : (xa == 1) = false := by rw [beq_eq_false_iff_ne]; exact x1
                by_cases x2 : xa = 2
                · have e2 : (xa == 2) = true := by rw [beq_iff_eq]; exact x2
                  clear x0 x1 x2 HK
                  have C2 := X.out.c2
                  have h80 : l.length ≤ 1000 := by have := HLn.out; omega
                  have ml := X.out.rd HLn.out
                  rcases fst_cases l with ⟨el, f1, f2⟩ | ⟨ix, f0, f1, f2⟩
                  · as_aux_lemma =>
                      have FI : Hid (∀ w', Calls Try.prog 11 #[.slice la j lc] w' fun e w'' => e = .returned (.int .i64 (-1)) ∧ Old w' w'') := fun w' => by
                        have := first19_any l la j lc HLn.out (by omega) w' (by rw [el]; intro i x hx; simp at hx)
                        rw [← HLn.out, f1, HLn.out] at this
                        exact this
                      have FX : Hid (∀ w', Old wr w' → PlX K w g (.slice la j lc) l l gx xa xw xt w') := fun w' o => X.out.mono o
                      have hdn : dueL l xt = none := by unfold dueL; rw [f2]
                      clear ml f1 f2 el
                      go_wp2_with fail
                      refine (FI.out _).mono ?_
                      rintro e w5 ⟨rfl, o5⟩
                      have X5 := hide (FX.out w5 o5)
                      have C5 := X5.out.c2
                      have C := hide (Bel.no X5.out.bel xt HO.out h80 hdn)
                      clear FI FX X o5 C0 C2 hdn h80
                      go_wp2_with fail
                      refine C.out.mono ?_
                      rintro e w6 ⟨rfl, b6, kk6⟩
                      have X6 := hide (X5.out.call b6 kk6)
                      have C6 := X6.out.c2
                      have HX6 := hide (fun t => X6.out.mono (Old.of_drewN w6 t))
                      clear C b6 kk6 X5 C5
                      go_wp2_with fail
                      go_quiet (fail)
                      have X2 := hide (HX6.out nq)
                      have HO2 := HO
                      have HN2 := HLn
                      have hl2 : Hid (j ≤ i + 1) := by show _ ≤ _; omega
                      clear HX6 X6 C6 HLn HO
                      go_wp2_with fail
                      go_meet
                      exact ⟨la, j, lc, l, rfl, HN2, HO2, hl2, X2⟩
                  · have FI : Hid (∀ w', MkIn w' la l → Calls Try.prog 11 #[.slice la j lc] w' fun e w'' => e = .returned (.int .i64 (ix : Int)) ∧ Old w' w'') := fun w' mm => by
                      have := first19_any l la j lc HLn.out (by omega) w' mm
                      rw [← HLn.out, f1, HLn.out] at this
                      exact this
                    have FI2 := hide (FI.out wr ml)
                    obtain ⟨m, hm⟩ : ∃ m, m = l.getD ix (0, 0) := ⟨_, rfl⟩
                    have hsa := stop_at l HO.out f0
                    rw [← hm] at f2 hsa
                    have hix : ix < j := by rw [← HLn.out]; exact f0
                    have ix0 : (0 : Int) ≤ ix := by omega
                    have ix1 : (ix : Int) < j := by omega
                    have d7 : decide ((ix : Int) < 0) = false := decide_eq_false (by omega)
                    have FB : Hid (∀ (lb : List Mk) (w' : World), PlX K w g (.slice la j lc) lb l gx xa xw xt w' → ∃ bq oq, la = some ⟨bq, oq, none⟩ ∧ w'.cell? ⟨bq, oq + ix * 2, none⟩ = some (.int .i64 m.1) ∧ w'.cell? ⟨bq, oq + ix * 2 + 1, none⟩ = some (.int .i64 m.2)) := fun lb w' x => by
                      rw [hm]
                      exact (x.rd HLn.out).at f0
                    go_wp2_with fail
                    refine FI2.out.mono ?_
                    rintro e w5 ⟨rfl, o5⟩
                    have X5 := hide (X.out.mono o5)
                    have C5 := X5.out.c2
                    clear FI FI2 X o5 C0 C2 ml f1
                    by_cases hd : m.2 ≤ xt
                    · have C := hide (Bel.due X5.out.bel xt m HO.out h80 (due_at f2 hd))
                      rw [hsa] at C
                      have dd : decide (m.2 ≤ xt) = true := decide_eq_true hd
                      have O1 : Hid (One1 (l.take ix ++ l.drop (ix + 1))) := by
                        show One1 _
                        rw [← hsa]
                        exact HO.out.stop m.1
                      have CL := hide (cut_length (l := l) (j := ix) f0)
                      clear hd f0 f2 hsa h80 hm
                      obtain ⟨m1, m2⟩ := m
                      dsimp only at C dd FB
                      have dn : (m1 != m1) = false := by simp
                      go_wp2_with fail
                      refine C.out.mono ?_
                      rintro e w6 ⟨rfl, b6, kk6⟩
                      have X6 := hide (X5.out.call b6 kk6)
                      have C6 := X6.out.c2
                      obtain ⟨bq, oq, hab, B0, B1⟩ := FB.out _ _ X6.out
                      subst hab
                      have HX6 := hide (fun t => X6.out.mono (Old.of_drewN w6 t))
                      clear C b6 kk6 X5 C5 FB X6
                      go_wp2_with fail
                      go_quiet (fail)
                      have X := hide (HX6.out nq)
                      clear HX6 C6
                      have mc := X.out.rd HLn.out
                      obtain ⟨bc, oc, hab, -, -⟩ := mc.at (i := ix) (by rw [HLn.out]; omega)
                      cases hab
                      have RC2 := hide mc
                      have HCC := hide hlc
                      have q0 : (0 : Int) ≤ ix := by omega
                      have q1 : (ix : Int) < j := by omega
                      clear mc
                      go_wp2_with fail
                      refine Sst.region (Ext := Old) 9 (fun w' : World => Old (w6.drewN nq) w') (Ssz.Apart []) [163, 164, 165, 166, 167, 168, 169, 170, 171]
                        [(163, own0M ((w6.drewN nq)).heap.size), (164, Ssx.cst (.slice (some ⟨bq, oq, none⟩) j lc)), (165, Ssx.cst (.int .i64 (ix : Int))), (166, Ssx.cst (.slice (some ⟨bq, oq, none⟩) ix lc)), (167, ownM ((w6.drewN nq)).heap.size (l.take ix)),
                         (168, Ssx.cst (.slice (some ⟨bq, oq, none⟩) j lc)), (169, Ssx.cst (.int .i64 (ix : Int))), (170, Ssx.cst (.int .i64 ((ix : Int) + 1))), (171, Ssx.cst (.slice (some (cutAtM bq oq lc (ix + 1))) (j - (ix + 1)) (lc - (ix + 1))))]
                        [] (by kernel_rfl) (by kernel_rfl) (by kernel_rfl) (by simp) (by kernel_rfl) (by intro p hp; cases hp) (by kernel_rfl) (by kernel_rfl) Old.refl ((Old.refl _).drewN 1) ?apart ?good ?behind
                      case apart => exact ⟨fun s hs => by simp at hs, fun s hs => by simp at hs⟩
                      case good =>
                        have hE : ∀ w w' : World, Old w w' → w.heap.size ≤ w'.heap.size := fun _ _ h => h.size
                        have hB : ∀ w' : World, Old (w6.drewN nq) w' → ((w6.drewN nq)).heap.size ≤ w'.heap.size := fun _ h => h.size
                        have hCo : ∀ w' w'' : World, Old (w6.drewN nq) w' → Old w' w'' → Old (w6.drewN nq) w'' := fun _ _ h1 h2 => h1.trans h2
                        refine And.intro (.inr ⟨by kernel_rfl, Ssz.keep (bld0M hB hCo rfl rfl (fun _ _ h => h)) hE (by kernel_rfl)⟩) ?_
                        refine And.intro (.inr ⟨by kernel_rfl, Ssz.keep (Ssx.mv Old.refl rfl rfl (fun _ _ h => h)) hE (by kernel_rfl)⟩) ?_
                        refine And.intro (.inr ⟨by kernel_rfl, Ssz.keep (Ssx.mv Old.refl rfl rfl (fun _ _ h => h)) hE (by kernel_rfl)⟩) ?_
                        refine And.intro (.inr ⟨by kernel_rfl, Ssz.keep (Ssx.val2 Old.refl (x := 164) (y := 165) (.slice (some ⟨bq, oq, none⟩) j lc) (.int .i64 (ix : Int)) (by simp [Op.operands]) (by simp [Op.operands]) rfl (fun _ _ h => h) (fun _ _ h => h) (fun ρ h1 h2 hc w => cutM_h (by have := HCC.out; omega) rfl h1 h2 w) (fun _ => rfl)) hE (by kernel_rfl)⟩) ?_
                        refine And.intro (.inr ⟨by kernel_rfl, Ssz.keep (app0M hB hCo rfl rfl ⟨bq, oq, none⟩ ix lc (l.take ix) (by rw [List.length_take, HLn.out]; omega) (by omega) (fun _ _ h => h) (fun _ _ h => h) (fun w' hC => mk_src ((RC2.out.mono hC).take ix)) (fun _ _ h => h)) hE (by kernel_rfl)⟩) ?_
                        refine And.intro (.inr ⟨by kernel_rfl, Ssz.keep (Ssx.mv Old.refl rfl rfl (fun _ _ h => h)) hE (by kernel_rfl)⟩) ?_
                        refine And.intro (.inr ⟨by kernel_rfl, Ssz.keep (Ssx.mv Old.refl rfl rfl (fun _ _ h => h)) hE (by kernel_rfl)⟩) ?_
                        refine And.intro (.inr ⟨by kernel_rfl, Ssz.keep (Ssx.val1 Old.refl (x := 169) (.int .i64 (ix : Int)) (by simp [Op.operands]) rfl (fun _ _ h => h) (fun ρ h1 hc w => by
                          have ew : IntKind.i64.wrap ((ix : Int) + 1) = (ix : Int) + 1 := by rw [IntKind.wrap_i64]; omega
                          unfold execOp
                          simp [h1, hc, go_sem, ew]) (fun _ => rfl)) hE (by kernel_rfl)⟩) ?_
                        refine And.intro (.inr ⟨by kernel_rfl, Ssz.keep (Ssx.val2 Old.refl (x := 168) (y := 170) (.slice (some ⟨bq, oq, none⟩) j lc) (.int .i64 ((ix : Int) + 1)) (by simp [Op.operands]) (by simp [Op.operands]) rfl (fun _ _ h => h) (fun _ _ h => h) (fun ρ h1 h2 hc w => cutM_l (by omega) HCC.out ((ix : Int) + 1) (by omega) rfl h1 h2 w) (fun _ => rfl)) hE (by kernel_rfl)⟩) ?_
                        exact trivial
                      case behind =>
                        intro vals w3 hC hD hv
                        have o4 : OwnsM w3 ((w6.drewN nq)).heap.size (vals 167) (l.take ix) := hv _ (.tail _ (.tail _ (.tail _ (.tail _ (.head _)))))
                        have v8 : vals 171 = _ := hv _ (.tail _ (.tail _ (.tail _ (.tail _ (.tail _ (.tail _ (.tail _ (.tail _ (.head _)))))))))
                        simp only [Ssa.putAll, List.map_cons, List.map_nil, List.foldl_cons, List.foldl_nil, List.setIfInBounds_toArray, List.set_cons_succ, List.set_cons_zero, v8, List.drop_succ_cons, List.drop_zero]
                        refine wp_appendMs rfl _ _ rfl ((w6.drewN nq)).heap.size (vals 167) (l.take ix) rfl o4 (cutAtM bq oq lc (ix + 1)) (j - (ix + 1)) (lc - (ix + 1)) (l.drop (ix + 1)) rfl (by rw [List.length_drop, HLn.out]) (cut_srcM (RC2.out.mono hC) (by rw [HLn.out]; exact HCC.out) (by rw [HLn.out]; omega)) (by rw [List.length_take, HLn.out]; omega) hC.size ?_
                        rintro v2 w5 ow gr
                        have OW5 : Old (w6.drewN nq) w5 := Below.grown hC gr hC.size (fun g e => (o4.lt e).1)
                        have ow2 : OwnsM w5 w.heap.size v2 (l.take ix ++ l.drop (ix + 1)) := by
                          obtain ⟨e1, e2⟩ := ow
                          refine ⟨e1, e2.imp id ?_⟩
                          rintro ⟨g', cap', cur', y1, y2, y3⟩
                          exact ⟨g', cap', cur', y1, Nat.le_trans X.out.bel.old.size y2, y3⟩
                        have X2 := hide (X.out.turn (grown_old OW5 _) ow2 (fun q hq => .inr (ow.lt hq).1))
                        clear ow gr hC hD hv o4 v8 RC2 OW5 ow2 X
                        obtain ⟨l2, hL2⟩ : ∃ l2, l2 = l.take ix ++ l.drop (ix + 1) := ⟨_, rfl⟩
                        rw [← hL2] at X2 O1 CL
                        obtain ⟨a2, c2, hv2, -, -⟩ := X2.out.own.rd
                        obtain ⟨n2, hn2⟩ : ∃ n2, l2.length = n2 := ⟨_, rfl⟩
                        have HN2 := hide hn2
                        have hl2 : Hid (n2 ≤ i + 1) := by
                          have := CL.out
                          have := HLn.out
                          show _ ≤ _
                          omega
                        rw [hn2] at hv2
                        subst hv2
                        have HO2 := O1
                        clear hL2 hn2 CL O1 HO HLn
                        go_wp2_with fail
                        go_meet
                        exact ⟨a2, n2, c2, l2, rfl, HN2, HO2, hl2, X2⟩
                    · as_aux_lemma =>
                        have C := hide (Bel.no X5.out.bel xt HO.out h80 (due_no f2 hd))
                        have dd : decide (m.2 ≤ xt) = false := decide_eq_false hd
                        clear hd f0 f2 hsa h80 hm
                        obtain ⟨m1, m2⟩ := m
                        dsimp only at dd FB
                        go_wp2_with fail
                        refine C.out.mono ?_
                        rintro e w6 ⟨rfl, b6, kk6⟩
                        have X6 := hide (X5.out.call b6 kk6)
                        have C6 := X6.out.c2
                        obtain ⟨bq, oq, hab, B0, B1⟩ := FB.out _ _ X6.out
                        subst hab
                        have HX6 := hide (fun t => X6.out.mono (Old.of_drewN w6 t))
                        clear C b6 kk6 X5 C5 FB X6
                        go_wp2_with fail
                        go_quiet (fail)
                        have X2 := hide (HX6.out nq)
                        have HO2 := HO
                        have HN2 := HLn
                        have hl2 : Hid (j ≤ i + 1) := by show _ ≤ _; omega
                        clear HX6 C6 B0 B1 HO HLn
                        go_wp2_with fail
                        go_meet
                        exact ⟨(some ⟨bq, oq, none⟩), j, lc, l, rfl, HN2, HO2, hl2, X2⟩
                · as_aux_lemma =>
                    have e2 : (xa == 2) = false := by rw [beq_eq_false_iff_ne]; exact x2
                    have X2 := X
                    have HO2 := HO
                    have HN2 := HLn
                    have hl2 : Hid (j ≤ i + 1) := by
                      show _ ≤ _
                      omega
                    clear x0 x1 x2 X HO HLn HK
                    go_wp2_with fail
                    go_meet
                    exact ⟨la, j, lc, l, rfl, HN2, HO2, hl2, X2⟩
          case rest =>
            clear X HO HLn hx C0
            obtain ⟨a2, n2, c2, l2, rfl, HN2, HO2, hl2, X2⟩ := hcut
            have h80 : Hid (l2.length ≤ 1000) := by
              have := hl2.out
              have := HN2.out
              show _ ≤ _
              omega
            have ml2 := hide (X2.out.rd HN2.out)
            rcases fst_cases l2 with ⟨el, f1, f2⟩ | ⟨j2, f0, f1, f2⟩
            · have en : n2 = 0 := by rw [← HN2.out, el]; rfl
              subst el en
              have NX := hide (Bel.empty X2.out.bel)
              have P2 : Hid (∀ w', Bel K w (fun q => (Value.slice a2 0 c2).ownBlock = some q ∨ q = gx) g [] w' → Kept (fun q => (Value.slice a2 0 c2).ownBlock = some q ∨ q = gx) wc w' → ∀ w'', Old w' w'' → PlW K w g (Value.slice a2 0 c2) [] (i + 1) w'') := fun w' bb kk w'' oo => ((X2.out.call bb kk).mono oo).fin HO2.out (Nat.zero_le _)
              have FI : Hid (∀ w', Calls Try.prog 11 #[.slice a2 0 c2] w' fun e w'' => e = .returned (.int .i64 (-1)) ∧ Old w' w'') := fun w' => first19_any [] a2 0 c2 rfl (by omega) w' (by intro i x hx; simp at hx)
              clear X2 ml2 f1 f2 hl2 h80 HN2 HO2
              go_wp2_with fail
              refine NX.out.mono ?_
              rintro e w7 ⟨rfl, b7, k7⟩
              have P3 := hide (P2.out w7 b7 k7)
              clear NX P2 b7 k7
              go_wp2_with fail
              refine (FI.out _).mono ?_
              rintro e w8 ⟨rfl, o8⟩
              have P4 := hide (P3.out w8 o8)
              clear P3 o8 FI
              go_wp2
              go_roundw
              case rel => exact ⟨i + 1, [], by omega, by omega, by go_num, P4⟩
              case measure => simp [intOf]; omega
            · have NX := hide (Bel.next X2.out.bel (l2.getD j2 (0, 0)) HO2.out h80.out f2)
              have FI : Hid (∀ w', MkIn w' a2 l2 → Calls Try.prog 11 #[.slice a2 n2 c2] w' fun e w'' => e = .returned (.int .i64 (j2 : Int)) ∧ Old w' w'') := fun w' mm => by
                have := first19_any l2 a2 n2 c2 HN2.out (by have := h80.out; have := HN2.out; omega) w' mm
                rw [← HN2.out, f1, HN2.out] at this
                exact this
              have j1 : (j2 : Int) < n2 := by have := HN2.out; omega
              have P2 : Hid (∀ w', Bel K w (fun q => (Value.slice a2 n2 c2).ownBlock = some q ∨ q = gx) g l2 w' → Kept (fun q => (Value.slice a2 n2 c2).ownBlock = some q ∨ q = gx) wc w' → MkIn w' a2 l2 ∧ ∀ w'', Old w' w'' → ∃ bz oz, (a2 : Option Addr) = some ⟨bz, oz, none⟩ ∧ w''.cell? ⟨bz, oz + j2 * 2 + 1, none⟩ = some (.int .i64 (l2.getD j2 (0, 0)).2) ∧ Hid (PlW K w g (Value.slice a2 n2 c2) l2 (i + 1) w'')) := fun w' bb kk => by
                have X3 := X2.out.call bb kk
                have m5 := X3.rd HN2.out
                refine ⟨m5, fun w'' oo => ?_⟩
                obtain ⟨b6, o6, e6, -, c6⟩ := (m5.mono oo).at f0
                exact ⟨b6, o6, e6, c6, (X3.mono oo).fin HO2.out (by rw [HN2.out]; exact hl2.out)⟩
              have j0 : (0 : Int) ≤ j2 := by omega
              have d8 : decide ((j2 : Int) < 0) = false := decide_eq_false (by omega)
              clear X2 ml2 f0 f1 f2 hl2 h80
              revert NX P2
              generalize (l2.getD j2 (0, 0)).2 = mt
              intro NX P2
              have d9 : (mt != mt) = false := by simp
              go_wp2_with fail
              refine NX.out.mono ?_
              rintro e w7 ⟨rfl, b7, k7⟩
              obtain ⟨mm, P3⟩ := P2.out w7 b7 k7
              have P3 := hide P3
              have FI := hide (FI.out w7 mm)
              clear NX P2 b7 k7 mm
              go_wp2_with fail
              refine FI.out.mono ?_
              rintro e w8 ⟨rfl, o8⟩
              obtain ⟨bz, oz, hab, cm, P4⟩ := P3.out w8 o8
              clear P3 o8 FI
              cases hab
              go_wp2
              go_roundw
              case rel => exact ⟨i + 1, l2, by omega, by omega, by go_num, P4⟩
              case measure => simp [intOf]; omega
        · have hjl : j < n := by omega
          obtain ⟨av, cv, hav, -, ml⟩ := R.out.2.own.rd
          rw [HLn.out] at hav
          cases hav
          obtain ⟨b3, off3, rfl, m0, -⟩ := ml.at (i := j) (by rw [HLn.out]; exact hjl)
          have m2 := R.out.2.c1
          have ST : Hid (∀ e : (l.getD j (0, 0)).1 = xw, (j : Int) = plcTo l xw (j + 1)) := fun e => by
            rw [plcTo, if_pos e]
          have NO : Hid (∀ e : (l.getD j (0, 0)).1 ≠ xw, k = plcTo l xw (j + 1)) := fun e => by
            rw [plcTo, if_neg e]
            exact R.out.1
          have X := hide (fun t => R.out.2.mono (Old.of_drewN _ t))
          have j0 : (0 : Int) ≤ j := by omega
          have j1 : (j : Int) < n := by omega
          clear R ml
          revert m0 ST NO
          generalize (l.getD j (0, 0)).1 = y
          intro m0 ST NO
          by_cases hy : y = xw
          · have K1 := hide (ST.out hy)
            have d1 : (y == xw) = true := by rw [beq_iff_eq]; exact hy
            clear ST NO hy hjn
            go_wp2_with fail
            go_quiet (fail)
            go_wp2
            go_roundw
            case rel => exact ⟨j + 1, j, by omega, rfl, by go_num, K1.out, X.out _⟩
            case measure => simp [intOf]; omega
          · have K1 := hide (NO.out hy)
            have d1 : (y == xw) = false := by rw [beq_eq_false_iff_ne]; exact hy
            clear ST NO hy hjn
            go_wp2_with fail
            go_quiet (fail)
            go_wp2
            go_roundw
            case rel => exact ⟨j + 1, k, by omega, rfl, by go_num, K1.out, X.out _⟩
            case measure => simp [intOf]; omega
    · have O := hide P.out.bel.old
      have cs : (decide (i < len) = true ∧ decide ((i : Int) < 80) = false) ∨ decide (i < len) = false := by
        by_cases q : i < len
        · exact .inl ⟨decide_eq_true q, decide_eq_false (by omega)⟩
        · exact .inr (decide_eq_false q)
      clear hlt hi hi80 P
      rcases cs with ⟨d1, d2⟩ | d1
      all_goals
        go_wp2
        go_ret
        exact ⟨rfl, O.out⟩
end Go.Proofs.Ytnmigdcedcmbkaa
