/-
  Layer 15's statement WordsSame.
-/
import Derived.Test.YtepchjpdfmleoaaLaws15c
namespace Go.Proofs.Ytepchjpdfmleoaa
open Go.RowKit Cn Pn Wn Rn
set_option linter.unusedVariables false

theorem same_text {c d : Wd} (hc : goodB c = true) (hd : goodB d = true) (V : Whole c) (W : Whole d) (bc : ∀ x ∈ sealed (textT c), x < 256) (bd : ∀ x ∈ sealed (textT d), x < 256) : ((Ssb.bstr (sealed (textT c))).toList == (Ssb.bstr (sealed (textT d))).toList) = decide (c = d) := by
  by_cases h : c = d
  · subst h
    simp
  · rw [decide_eq_false h, beq_eq_false_iff_ne]
    intro e
    exact h (text_inj (good_fine hc) (good_fine hd) V W (sealed_inj (bsl_inj bc bd e)))

theorem rd_front {w : World} {g : Nat} {t : TypeId} {xs : List Nat} {rest : List Value} (R : Row w g t (nums .u8 xs ++ rest)) : Rd w (some ⟨g, 0, none⟩) (nums .u8 xs) := fun i v hv => ⟨g, 0, rfl, by
    rw [Nat.zero_add]
    refine R.cell ?_
    rw [List.getElem?_append_left (List.getElem?_eq_some_iff.1 hv).1]
    exact hv⟩

set_option maxRecDepth 100000 in
set_option maxHeartbeats 4000000 in
theorem walk_WordsSame (v0 v1 : Value) (w : World) (w0 : IsWord w v0) (w1 : IsWord w v1) :
    Calls Try.prog 7 #[v0, v1] w fun e w' => e = .returned (.bool true) ∧ Old w w' := by
  obtain ⟨c, m, rfl, F, CP⟩ := w0
  obtain ⟨d, k, rfl, G, CQ⟩ := w1
  have B00 := ((Bxs.nil w).alloc 29 (wdc c m) rfl).alloc 29 (wdc d k) (g := w.heap.size + 1) (by rw [World.size_alloc])
  have B0 := hide B00
  have C1 := hide (fun wr : World => large_any c m wr)
  have C2 := hide (fun wr : World => large_any d k wr)
  have AW := hide awake15
  have HF := hide F
  have HG := hide G
  have HP := hide CP
  have HQ := hide CQ
  clear F G CP CQ B00
  cases hl : largeB c
  · cases hk : largeB d
    · have hs := hide (large_no hl)
      have ht := hide (large_no hk)
      rw [hl] at C1
      rw [hk] at C2
      have C3 := hide (fun (wr : World) (o : Old w wr) => refSame15_any c d m k wr (HF.out.mono o) (HG.out.mono o) (by have := hs.out; omega))
      have C4 := hide (fun (wr : World) (o : Old w wr) => encode_any letterK c m wr (HF.out.mono o) HP.out)
      have C5 := hide (fun (wr : World) (o : Old w wr) => encode_any letterK d k wr (HG.out.mono o) HQ.out)
      have C6 := hide (fun (wr : World) (o : Old w wr) => same15_any c d m k wr (HF.out.mono o) (HG.out.mono o))
      unfold EncR at C4 C5
      have TE : Hid (goodB c = true → goodB d = true → ((Ssb.bstr (sealed (textT c))).toList == (Ssb.bstr (sealed (textT d))).toList) = decide (c = d)) := fun h1 h2 => same_text h1 h2 HF.out.whole HG.out.whole HF.out.text HG.out.text
      clear hl hk hs ht HP HQ
      generalize decide (c = d) = sm at *
      unfold wdc at *
      go_enter Try.func7, Try.ntmps7
      go_wp2_with fail
      refine (C1.out _).mono ?_
      rintro e w1 ⟨rfl, o1⟩
      have B1 := hide (B0.out.mono o1)
      clear o1 C1 B0
      have d0 := (B1.out.row 0 rfl).cell (i := 0) rfl
      have d1 := (B1.out.row 0 rfl).cell (i := 1) rfl
      have d2 := (B1.out.row 0 rfl).cell (i := 2) rfl
      have d3 := (B1.out.row 0 rfl).cell (i := 3) rfl
      have d4 := (B1.out.row 0 rfl).cell (i := 4) rfl
      have d5 := (B1.out.row 0 rfl).cell (i := 5) rfl
      have d6 := (B1.out.row 0 rfl).cell (i := 6) rfl
      have d7 := (B1.out.row 0 rfl).cell (i := 7) rfl
      have x0 := (B1.out.row 1 rfl).cell (i := 0) rfl
      have x1 := (B1.out.row 1 rfl).cell (i := 1) rfl
      have x2 := (B1.out.row 1 rfl).cell (i := 2) rfl
      have x3 := (B1.out.row 1 rfl).cell (i := 3) rfl
      have x4 := (B1.out.row 1 rfl).cell (i := 4) rfl
      have x5 := (B1.out.row 1 rfl).cell (i := 5) rfl
      have x6 := (B1.out.row 1 rfl).cell (i := 6) rfl
      have x7 := (B1.out.row 1 rfl).cell (i := 7) rfl
      go_wp2_with fail
      refine (C2.out _).mono ?_
      rintro e w2 ⟨rfl, o2⟩
      have B2 := hide (B1.out.mono o2)
      clear o2 C2 B1 d0 d1 d2 d3 d4 d5 d6 d7 x0 x1 x2 x3 x4 x5 x6 x7
      have d0 := (B2.out.row 0 rfl).cell (i := 0) rfl
      have d1 := (B2.out.row 0 rfl).cell (i := 1) rfl
      have d2 := (B2.out.row 0 rfl).cell (i := 2) rfl
      have d3 := (B2.out.row 0 rfl).cell (i := 3) rfl
      have d4 := (B2.out.row 0 rfl).cell (i := 4) rfl
      have d5 := (B2.out.row 0 rfl).cell (i := 5) rfl
      have d6 := (B2.out.row 0 rfl).cell (i := 6) rfl
      have d7 := (B2.out.row 0 rfl).cell (i := 7) rfl
      have x0 := (B2.out.row 1 rfl).cell (i := 0) rfl
      have x1 := (B2.out.row 1 rfl).cell (i := 1) rfl
      have x2 := (B2.out.row 1 rfl).cell (i := 2) rfl
      have x3 := (B2.out.row 1 rfl).cell (i := 3) rfl
      have x4 := (B2.out.row 1 rfl).cell (i := 4) rfl
      have x5 := (B2.out.row 1 rfl).cell (i := 5) rfl
      have x6 := (B2.out.row 1 rfl).cell (i := 6) rfl
      have x7 := (B2.out.row 1 rfl).cell (i := 7) rfl
      go_wp2_with fail
      refine (C3.out _ B2.out.old).mono ?_
      rintro e w3 ⟨rfl, o3⟩
      have B3 := hide (B2.out.mono o3)
      clear o3 C3 B2 d0 d1 d2 d3 d4 d5 d6 d7 x0 x1 x2 x3 x4 x5 x6 x7
      have d0 := (B3.out.row 0 rfl).cell (i := 0) rfl
      have d1 := (B3.out.row 0 rfl).cell (i := 1) rfl
      have d2 := (B3.out.row 0 rfl).cell (i := 2) rfl
      have d3 := (B3.out.row 0 rfl).cell (i := 3) rfl
      have d4 := (B3.out.row 0 rfl).cell (i := 4) rfl
      have d5 := (B3.out.row 0 rfl).cell (i := 5) rfl
      have d6 := (B3.out.row 0 rfl).cell (i := 6) rfl
      have d7 := (B3.out.row 0 rfl).cell (i := 7) rfl
      have x0 := (B3.out.row 1 rfl).cell (i := 0) rfl
      have x1 := (B3.out.row 1 rfl).cell (i := 1) rfl
      have x2 := (B3.out.row 1 rfl).cell (i := 2) rfl
      have x3 := (B3.out.row 1 rfl).cell (i := 3) rfl
      have x4 := (B3.out.row 1 rfl).cell (i := 4) rfl
      have x5 := (B3.out.row 1 rfl).cell (i := 5) rfl
      have x6 := (B3.out.row 1 rfl).cell (i := 6) rfl
      have x7 := (B3.out.row 1 rfl).cell (i := 7) rfl
      go_wp2_with fail
      refine (C4.out _ B3.out.old).mono ?_
      rintro e w4 he
      have C5' := C5.out
      cases hgc : goodB c
      · rw [hgc] at he
        obtain ⟨rfl, o4⟩ := he
        have B4 := hide (B3.out.mono o4)
        clear o4 C4 B3 d0 d1 d2 d3 d4 d5 d6 d7 x0 x1 x2 x3 x4 x5 x6 x7
        have d0 := (B4.out.row 0 rfl).cell (i := 0) rfl
        have d1 := (B4.out.row 0 rfl).cell (i := 1) rfl
        have d2 := (B4.out.row 0 rfl).cell (i := 2) rfl
        have d3 := (B4.out.row 0 rfl).cell (i := 3) rfl
        have d4 := (B4.out.row 0 rfl).cell (i := 4) rfl
        have d5 := (B4.out.row 0 rfl).cell (i := 5) rfl
        have d6 := (B4.out.row 0 rfl).cell (i := 6) rfl
        have d7 := (B4.out.row 0 rfl).cell (i := 7) rfl
        have x0 := (B4.out.row 1 rfl).cell (i := 0) rfl
        have x1 := (B4.out.row 1 rfl).cell (i := 1) rfl
        have x2 := (B4.out.row 1 rfl).cell (i := 2) rfl
        have x3 := (B4.out.row 1 rfl).cell (i := 3) rfl
        have x4 := (B4.out.row 1 rfl).cell (i := 4) rfl
        have x5 := (B4.out.row 1 rfl).cell (i := 5) rfl
        have x6 := (B4.out.row 1 rfl).cell (i := 6) rfl
        have x7 := (B4.out.row 1 rfl).cell (i := 7) rfl
        cases hgd : goodB d
        · go_wp2_with fail
          refine (C5.out _ B4.out.old).mono ?_
          rintro e w5 he
          rw [hgd] at he
          obtain ⟨rfl, o5⟩ := he
          have B5 := hide (B4.out.mono o5)
          clear o5 C5 C5' B4 d0 d1 d2 d3 d4 d5 d6 d7 x0 x1 x2 x3 x4 x5 x6 x7
          go_wp2_with fail
          refine (AW.out _).mono ?_
          rintro e w6 ⟨rfl, o6⟩
          have B6 := hide (B5.out.mono o6)
          clear o6 B5
          have d0 := (B6.out.row 0 rfl).cell (i := 0) rfl
          have d1 := (B6.out.row 0 rfl).cell (i := 1) rfl
          have d2 := (B6.out.row 0 rfl).cell (i := 2) rfl
          have d3 := (B6.out.row 0 rfl).cell (i := 3) rfl
          have d4 := (B6.out.row 0 rfl).cell (i := 4) rfl
          have d5 := (B6.out.row 0 rfl).cell (i := 5) rfl
          have d6 := (B6.out.row 0 rfl).cell (i := 6) rfl
          have d7 := (B6.out.row 0 rfl).cell (i := 7) rfl
          have x0 := (B6.out.row 1 rfl).cell (i := 0) rfl
          have x1 := (B6.out.row 1 rfl).cell (i := 1) rfl
          have x2 := (B6.out.row 1 rfl).cell (i := 2) rfl
          have x3 := (B6.out.row 1 rfl).cell (i := 3) rfl
          have x4 := (B6.out.row 1 rfl).cell (i := 4) rfl
          have x5 := (B6.out.row 1 rfl).cell (i := 5) rfl
          have x6 := (B6.out.row 1 rfl).cell (i := 6) rfl
          have x7 := (B6.out.row 1 rfl).cell (i := 7) rfl
          go_wp2_with fail
          refine (C6.out _ B6.out.old).mono ?_
          rintro e w7 ⟨rfl, o7⟩
          have O7 := hide (B6.out.old.trans o7)
          clear o7 C6 B6 d0 d1 d2 d3 d4 d5 d6 d7 x0 x1 x2 x3 x4 x5 x6 x7
          go_wp2
          go_ret
          exact ⟨by simp, O7.out⟩
        · go_wp2_with fail
          refine (C5.out _ B4.out.old).mono ?_
          rintro e w5 he
          rw [if_pos hgd] at he
          obtain ⟨g, cap, rest, rfl, _, _, _, o5⟩ := he
          have B5 := hide (B4.out.mono o5)
          clear o5 C5 C5' B4 d0 d1 d2 d3 d4 d5 d6 d7 x0 x1 x2 x3 x4 x5 x6 x7
          go_wp2_with fail
          refine (AW.out _).mono ?_
          rintro e w6 ⟨rfl, o6⟩
          have B6 := hide (B5.out.mono o6)
          clear o6 B5
          have d0 := (B6.out.row 0 rfl).cell (i := 0) rfl
          have d1 := (B6.out.row 0 rfl).cell (i := 1) rfl
          have d2 := (B6.out.row 0 rfl).cell (i := 2) rfl
          have d3 := (B6.out.row 0 rfl).cell (i := 3) rfl
          have d4 := (B6.out.row 0 rfl).cell (i := 4) rfl
          have d5 := (B6.out.row 0 rfl).cell (i := 5) rfl
          have d6 := (B6.out.row 0 rfl).cell (i := 6) rfl
          have d7 := (B6.out.row 0 rfl).cell (i := 7) rfl
          have x0 := (B6.out.row 1 rfl).cell (i := 0) rfl
          have x1 := (B6.out.row 1 rfl).cell (i := 1) rfl
          have x2 := (B6.out.row 1 rfl).cell (i := 2) rfl
          have x3 := (B6.out.row 1 rfl).cell (i := 3) rfl
          have x4 := (B6.out.row 1 rfl).cell (i := 4) rfl
          have x5 := (B6.out.row 1 rfl).cell (i := 5) rfl
          have x6 := (B6.out.row 1 rfl).cell (i := 6) rfl
          have x7 := (B6.out.row 1 rfl).cell (i := 7) rfl
          go_wp2_with fail
          refine (C6.out _ B6.out.old).mono ?_
          rintro e w7 ⟨rfl, o7⟩
          have O7 := hide (B6.out.old.trans o7)
          clear o7 C6 B6 d0 d1 d2 d3 d4 d5 d6 d7 x0 x1 x2 x3 x4 x5 x6 x7
          go_wp2
          go_ret
          exact ⟨by simp, O7.out⟩
      · rw [if_pos hgc] at he
        obtain ⟨ga, ka, ra, rfl, _, _, RA, o4⟩ := he
        have B4 := hide (B3.out.mono o4)
        have RA4 := hide RA
        clear o4 C4 B3 RA d0 d1 d2 d3 d4 d5 d6 d7 x0 x1 x2 x3 x4 x5 x6 x7
        have d0 := (B4.out.row 0 rfl).cell (i := 0) rfl
        have d1 := (B4.out.row 0 rfl).cell (i := 1) rfl
        have d2 := (B4.out.row 0 rfl).cell (i := 2) rfl
        have d3 := (B4.out.row 0 rfl).cell (i := 3) rfl
        have d4 := (B4.out.row 0 rfl).cell (i := 4) rfl
        have d5 := (B4.out.row 0 rfl).cell (i := 5) rfl
        have d6 := (B4.out.row 0 rfl).cell (i := 6) rfl
        have d7 := (B4.out.row 0 rfl).cell (i := 7) rfl
        have x0 := (B4.out.row 1 rfl).cell (i := 0) rfl
        have x1 := (B4.out.row 1 rfl).cell (i := 1) rfl
        have x2 := (B4.out.row 1 rfl).cell (i := 2) rfl
        have x3 := (B4.out.row 1 rfl).cell (i := 3) rfl
        have x4 := (B4.out.row 1 rfl).cell (i := 4) rfl
        have x5 := (B4.out.row 1 rfl).cell (i := 5) rfl
        have x6 := (B4.out.row 1 rfl).cell (i := 6) rfl
        have x7 := (B4.out.row 1 rfl).cell (i := 7) rfl
        cases hgd : goodB d
        · go_wp2_with fail
          refine (C5.out _ B4.out.old).mono ?_
          rintro e w5 he
          rw [hgd] at he
          obtain ⟨rfl, o5⟩ := he
          have B5 := hide (B4.out.mono o5)
          clear o5 C5 C5' B4 d0 d1 d2 d3 d4 d5 d6 d7 x0 x1 x2 x3 x4 x5 x6 x7
          go_wp2_with fail
          refine (AW.out _).mono ?_
          rintro e w6 ⟨rfl, o6⟩
          have B6 := hide (B5.out.mono o6)
          clear o6 B5
          have d0 := (B6.out.row 0 rfl).cell (i := 0) rfl
          have d1 := (B6.out.row 0 rfl).cell (i := 1) rfl
          have d2 := (B6.out.row 0 rfl).cell (i := 2) rfl
          have d3 := (B6.out.row 0 rfl).cell (i := 3) rfl
          have d4 := (B6.out.row 0 rfl).cell (i := 4) rfl
          have d5 := (B6.out.row 0 rfl).cell (i := 5) rfl
          have d6 := (B6.out.row 0 rfl).cell (i := 6) rfl
          have d7 := (B6.out.row 0 rfl).cell (i := 7) rfl
          have x0 := (B6.out.row 1 rfl).cell (i := 0) rfl
          have x1 := (B6.out.row 1 rfl).cell (i := 1) rfl
          have x2 := (B6.out.row 1 rfl).cell (i := 2) rfl
          have x3 := (B6.out.row 1 rfl).cell (i := 3) rfl
          have x4 := (B6.out.row 1 rfl).cell (i := 4) rfl
          have x5 := (B6.out.row 1 rfl).cell (i := 5) rfl
          have x6 := (B6.out.row 1 rfl).cell (i := 6) rfl
          have x7 := (B6.out.row 1 rfl).cell (i := 7) rfl
          go_wp2_with fail
          refine (C6.out _ B6.out.old).mono ?_
          rintro e w7 ⟨rfl, o7⟩
          have O7 := hide (B6.out.old.trans o7)
          clear o7 C6 B6 d0 d1 d2 d3 d4 d5 d6 d7 x0 x1 x2 x3 x4 x5 x6 x7
          go_wp2
          go_ret
          exact ⟨by simp, O7.out⟩
        · have T2 := hide (TE.out hgc hgd)
          clear TE
          go_wp2_with fail
          refine (C5.out _ B4.out.old).mono ?_
          rintro e w5 he
          rw [if_pos hgd] at he
          obtain ⟨gb, kb, rb, rfl, _, _, RB, o5⟩ := he
          have B5 := hide (B4.out.mono o5)
          have RA5 := hide (RA4.out.mono o5)
          have RB5 := hide RB
          clear o5 C5 C5' B4 RA4 RB d0 d1 d2 d3 d4 d5 d6 d7 x0 x1 x2 x3 x4 x5 x6 x7
          generalize sealed (textT c) = A at *
          generalize sealed (textT d) = B at *
          go_wp2_with fail
          refine (AW.out _).mono ?_
          rintro e w6 ⟨rfl, o6⟩
          have B6 := hide (B5.out.mono o6)
          have RA6 := hide (RA5.out.mono o6)
          have RB6 := hide (RB5.out.mono o6)
          clear o6 B5 RA5 RB5
          have d0 := (B6.out.row 0 rfl).cell (i := 0) rfl
          have d1 := (B6.out.row 0 rfl).cell (i := 1) rfl
          have d2 := (B6.out.row 0 rfl).cell (i := 2) rfl
          have d3 := (B6.out.row 0 rfl).cell (i := 3) rfl
          have d4 := (B6.out.row 0 rfl).cell (i := 4) rfl
          have d5 := (B6.out.row 0 rfl).cell (i := 5) rfl
          have d6 := (B6.out.row 0 rfl).cell (i := 6) rfl
          have d7 := (B6.out.row 0 rfl).cell (i := 7) rfl
          have x0 := (B6.out.row 1 rfl).cell (i := 0) rfl
          have x1 := (B6.out.row 1 rfl).cell (i := 1) rfl
          have x2 := (B6.out.row 1 rfl).cell (i := 2) rfl
          have x3 := (B6.out.row 1 rfl).cell (i := 3) rfl
          have x4 := (B6.out.row 1 rfl).cell (i := 4) rfl
          have x5 := (B6.out.row 1 rfl).cell (i := 5) rfl
          have x6 := (B6.out.row 1 rfl).cell (i := 6) rfl
          have x7 := (B6.out.row 1 rfl).cell (i := 7) rfl
          go_wp2_with fail
          refine (C6.out _ B6.out.old).mono ?_
          rintro e w7 ⟨rfl, o7⟩
          have O7 := hide (B6.out.old.trans o7)
          have CA : (convert 32 9 (.slice (some ⟨ga, 0, none⟩) A.length ka)).run Try.prog w7 = .ok (.string (Ssb.bstr A)) w7 := Ssb.run_bstr Try.underlying32 Try.underlying5 Try.underlying9 rfl (rd_front (RA6.out.mono o7))
          have CB : (convert 32 9 (.slice (some ⟨gb, 0, none⟩) B.length kb)).run Try.prog w7 = .ok (.string (Ssb.bstr B)) w7 := Ssb.run_bstr Try.underlying32 Try.underlying5 Try.underlying9 rfl (rd_front (RB6.out.mono o7))
          have T3 := T2.out
          clear o7 C6 B6 RA6 RB6 d0 d1 d2 d3 d4 d5 d6 d7 x0 x1 x2 x3 x4 x5 x6 x7
          go_wp2
          go_ret
          exact ⟨by simp, O7.out⟩
    · rw [hl] at C1
      rw [hk] at C2
      unfold wdc at *
      go_enter Try.func7, Try.ntmps7
      go_wp2_with fail
      refine (C1.out _).mono ?_
      rintro e w1 ⟨rfl, o1⟩
      have B1 := hide (B0.out.mono o1)
      clear o1 C1 B0
      have d0 := (B1.out.row 0 rfl).cell (i := 0) rfl
      have d1 := (B1.out.row 0 rfl).cell (i := 1) rfl
      have d2 := (B1.out.row 0 rfl).cell (i := 2) rfl
      have d3 := (B1.out.row 0 rfl).cell (i := 3) rfl
      have d4 := (B1.out.row 0 rfl).cell (i := 4) rfl
      have d5 := (B1.out.row 0 rfl).cell (i := 5) rfl
      have d6 := (B1.out.row 0 rfl).cell (i := 6) rfl
      have d7 := (B1.out.row 0 rfl).cell (i := 7) rfl
      have x0 := (B1.out.row 1 rfl).cell (i := 0) rfl
      have x1 := (B1.out.row 1 rfl).cell (i := 1) rfl
      have x2 := (B1.out.row 1 rfl).cell (i := 2) rfl
      have x3 := (B1.out.row 1 rfl).cell (i := 3) rfl
      have x4 := (B1.out.row 1 rfl).cell (i := 4) rfl
      have x5 := (B1.out.row 1 rfl).cell (i := 5) rfl
      have x6 := (B1.out.row 1 rfl).cell (i := 6) rfl
      have x7 := (B1.out.row 1 rfl).cell (i := 7) rfl
      go_wp2_with fail
      refine (C2.out _).mono ?_
      rintro e w2 ⟨rfl, o2⟩
      have O2 := hide (B1.out.old.trans o2)
      clear o2 C2 B1 d0 d1 d2 d3 d4 d5 d6 d7 x0 x1 x2 x3 x4 x5 x6 x7
      go_wp2_with fail
      refine (AW.out _).mono ?_
      rintro e w3 ⟨rfl, o3⟩
      have O3 := hide (O2.out.trans o3)
      go_wp2
      go_ret
      exact ⟨by simp, O3.out⟩
  · rw [hl] at C1
    unfold wdc at *
    go_enter Try.func7, Try.ntmps7
    go_wp2_with fail
    refine (C1.out _).mono ?_
    rintro e w1 ⟨rfl, o1⟩
    have O1 := hide (B0.out.old.trans o1)
    clear o1 C1 B0
    go_wp2_with fail
    refine (AW.out _).mono ?_
    rintro e w3 ⟨rfl, o3⟩
    have O3 := hide (O1.out.trans o3)
    go_wp2
    go_ret
    exact ⟨by simp, O3.out⟩
end Go.Proofs.Ytepchjpdfmleoaa
