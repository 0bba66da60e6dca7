/-
  Layer 15's statement WordsWrites.
-/
import Derived.Test.YtepchjpdfmleoaaLaws15b
namespace Go.Proofs.Ytepchjpdfmleoaa
open Go.RowKit Cn Pn Wn Rn
set_option linter.unusedVariables false

set_option maxRecDepth 100000 in
set_option maxHeartbeats 4000000 in
theorem walk_WordsWrites (v0 : Value) (w : World) (w0 : IsWord w v0) :
    Calls Try.prog 4 #[v0] w fun e w' => e = .returned (.bool true) ∧ Old w w' := by
  obtain ⟨c, m, rfl, F, CP⟩ := w0
  have C1 := hide (fun wr : World => large_any c m wr)
  have R := hide (Row.new w 29 (wdc c m))
  have O0 := hide (Old.of_alloc w (.cells (wdc c m).toArray 29))
  have HF := hide F
  have HCP := hide CP
  clear F CP
  cases hl : largeB c
  · have hs := hide (large_no hl)
    rw [hl] at C1
    have C2 := hide (fun (wr : World) (o : Old w wr) => encode_any letterK c m wr (HF.out.mono o) HCP.out)
    have C3 := hide (fun (wr : World) (o : Old w wr) => refGood15_all c m wr (HF.out.mono o) (by have := hs.out; omega))
    unfold EncR at C2
    clear hl
    cases hg : goodB c
    · rw [hg] at C3
      simp only [hg] at C2
      unfold wdc at *
      clear hg
      go_enter Try.func4, Try.ntmps4
      go_wp2_with fail
      refine (C1.out _).mono ?_
      rintro e w1 ⟨rfl, o1⟩
      have R1 := hide (R.out.mono o1)
      have O1 := hide (O0.out.trans o1)
      clear o1 C1
      have d0 := R1.out.cell (i := 0) rfl
      have d1 := R1.out.cell (i := 1) rfl
      have d2 := R1.out.cell (i := 2) rfl
      have d3 := R1.out.cell (i := 3) rfl
      have d4 := R1.out.cell (i := 4) rfl
      have d5 := R1.out.cell (i := 5) rfl
      have d6 := R1.out.cell (i := 6) rfl
      have d7 := R1.out.cell (i := 7) rfl
      go_wp2_with fail
      refine (C2.out _ O1.out).mono ?_
      rintro e w2 ⟨rfl, o2⟩
      have R2 := hide (R1.out.mono o2)
      have O2 := hide (O1.out.trans o2)
      clear o2 C2 d0 d1 d2 d3 d4 d5 d6 d7
      have d0 := R2.out.cell (i := 0) rfl
      have d1 := R2.out.cell (i := 1) rfl
      have d2 := R2.out.cell (i := 2) rfl
      have d3 := R2.out.cell (i := 3) rfl
      have d4 := R2.out.cell (i := 4) rfl
      have d5 := R2.out.cell (i := 5) rfl
      have d6 := R2.out.cell (i := 6) rfl
      have d7 := R2.out.cell (i := 7) rfl
      go_wp2_with fail
      refine (C3.out _ O2.out).mono ?_
      rintro e w3 ⟨rfl, o3⟩
      have O3 := hide (O2.out.trans o3)
      clear o3 C3 d0 d1 d2 d3 d4 d5 d6 d7
      go_wp2_with fail
      refine (awake15 _).mono ?_
      rintro e w4 ⟨rfl, o4⟩
      have O4 := hide (O3.out.trans o4)
      clear o4
      go_wp2
      go_ret
      exact ⟨by simp, O4.out⟩
    · rw [hg] at C3
      simp only [hg, if_true] at C2
      have DB := hide (decB_bwd hg HF.out.whole)
      have FF := hide (good_fine hg)
      have LS := hide (sealed_len hg)
      have BS := hide HF.out.text
      clear hg
      unfold wdc at *
      go_enter Try.func4, Try.ntmps4
      go_wp2_with fail
      refine (C1.out _).mono ?_
      rintro e w1 ⟨rfl, o1⟩
      have R1 := hide (R.out.mono o1)
      have O1 := hide (O0.out.trans o1)
      clear o1 C1
      have d0 := R1.out.cell (i := 0) rfl
      have d1 := R1.out.cell (i := 1) rfl
      have d2 := R1.out.cell (i := 2) rfl
      have d3 := R1.out.cell (i := 3) rfl
      have d4 := R1.out.cell (i := 4) rfl
      have d5 := R1.out.cell (i := 5) rfl
      have d6 := R1.out.cell (i := 6) rfl
      have d7 := R1.out.cell (i := 7) rfl
      go_wp2_with fail
      refine (C2.out _ O1.out).mono ?_
      rintro e w2 ⟨g, cap, rest, rfl, _, hc, RG, o2⟩
      have R2 := hide (R1.out.mono o2)
      have O2 := hide (O1.out.trans o2)
      have RG2 := hide RG
      have HC := hide hc
      clear o2 C2 RG hc d0 d1 d2 d3 d4 d5 d6 d7
      have d0 := R2.out.cell (i := 0) rfl
      have d1 := R2.out.cell (i := 1) rfl
      have d2 := R2.out.cell (i := 2) rfl
      have d3 := R2.out.cell (i := 3) rfl
      have d4 := R2.out.cell (i := 4) rfl
      have d5 := R2.out.cell (i := 5) rfl
      have d6 := R2.out.cell (i := 6) rfl
      have d7 := R2.out.cell (i := 7) rfl
      go_wp2_with fail
      refine (C3.out _ O2.out).mono ?_
      rintro e w3 ⟨rfl, o3⟩
      have R3 := hide (R2.out.mono o3)
      have O3 := hide (O2.out.trans o3)
      have Y3 := hide (By14.row (RG2.out.mono o3) rfl HC.out (by have := LS.out; omega) BS.out)
      clear o3 C3 RG2 d0 d1 d2 d3 d4 d5 d6 d7
      have C4 := hide (decode_any (some ⟨g, 0, none⟩) _ cap _ w3 Y3.out)
      unfold DecR at C4
      simp only [DB.out.1, DB.out.2, if_true] at C4
      have C6 := hide (fun (wr : World) (o : Old w wr) => refText15_any c m wr (HF.out.mono o) FF.out.text)
      have C7 := hide (fun wr : World => refSealed14_any (textT c) (text_lt (fun x hx => (HF.out.parcelB x hx).2.2.1)) (by have := text_len FF.out; omega) wr)
      clear DB
      generalize sealed (textT c) = L at *
      go_wp2_with fail
      refine C4.out.mono ?_
      rintro e w4 ⟨m2, rfl, F4, o4, _⟩
      have R4 := (R3.out.mono o4).mono (Old.of_alloc w4 (.cells (wdc c m2).toArray 29))
      have X4 := Row.new w4 29 (wdc c m2)
      have O4 : Hid (Old w (w4.alloc (.cells (wdc c m2).toArray 29))) := (O3.out.trans o4).trans (Old.of_alloc _ _)
      have F5 := hide (F4.mono (Old.of_alloc w4 (.cells (wdc c m2).toArray 29)))
      have Y4 := hide ((Y3.out.mono o4).mono (Old.of_alloc w4 (.cells (wdc c m2).toArray 29)))
      obtain ⟨W5, hW5⟩ : ∃ W5, W5 = w4.alloc (.cells (wdc c m2).toArray 29) := ⟨_, rfl⟩
      rw [← hW5] at R4 X4 O4 F5 Y4
      have HW := hide hW5
      clear hW5 o4 F4 C4 Y3 R3 R2 R1 O0 O1 O2 O3 R
      have d0 : ∀ y : After W5, y.to.cell? ⟨w.heap.size, 0, none⟩ = some (.int .i64 c.kind) := fun y => y.cell (R4.cell (i := 0) rfl)
      have d1 : ∀ y : After W5, y.to.cell? ⟨w.heap.size, 1, none⟩ = some (.int .i64 c.frm) := fun y => y.cell (R4.cell (i := 1) rfl)
      have d2 : ∀ y : After W5, y.to.cell? ⟨w.heap.size, 2, none⟩ = some (.int .i64 c.why) := fun y => y.cell (R4.cell (i := 2) rfl)
      have d3 : ∀ y : After W5, y.to.cell? ⟨w.heap.size, 3, none⟩ = some (.slice m.a1 c.cards.length m.c1) := fun y => y.cell (R4.cell (i := 3) rfl)
      have d4 : ∀ y : After W5, y.to.cell? ⟨w.heap.size, 4, none⟩ = some (.slice m.a2 c.parcels.length m.c2) := fun y => y.cell (R4.cell (i := 4) rfl)
      have d5 : ∀ y : After W5, y.to.cell? ⟨w.heap.size, 5, none⟩ = some (.slice m.a3 c.vector.length m.c3) := fun y => y.cell (R4.cell (i := 5) rfl)
      have d6 : ∀ y : After W5, y.to.cell? ⟨w.heap.size, 6, none⟩ = some (.slice m.a4 c.who.length m.c4) := fun y => y.cell (R4.cell (i := 6) rfl)
      have d7 : ∀ y : After W5, y.to.cell? ⟨w.heap.size, 7, none⟩ = some (.slice m.a5 c.openings.length m.c5) := fun y => y.cell (R4.cell (i := 7) rfl)
      have x0 : ∀ y : After W5, y.to.cell? ⟨w4.heap.size, 0, none⟩ = some (.int .i64 c.kind) := fun y => y.cell (X4.cell (i := 0) rfl)
      have x1 : ∀ y : After W5, y.to.cell? ⟨w4.heap.size, 1, none⟩ = some (.int .i64 c.frm) := fun y => y.cell (X4.cell (i := 1) rfl)
      have x2 : ∀ y : After W5, y.to.cell? ⟨w4.heap.size, 2, none⟩ = some (.int .i64 c.why) := fun y => y.cell (X4.cell (i := 2) rfl)
      have x3 : ∀ y : After W5, y.to.cell? ⟨w4.heap.size, 3, none⟩ = some (.slice m2.a1 c.cards.length m2.c1) := fun y => y.cell (X4.cell (i := 3) rfl)
      have x4 : ∀ y : After W5, y.to.cell? ⟨w4.heap.size, 4, none⟩ = some (.slice m2.a2 c.parcels.length m2.c2) := fun y => y.cell (X4.cell (i := 4) rfl)
      have x5 : ∀ y : After W5, y.to.cell? ⟨w4.heap.size, 5, none⟩ = some (.slice m2.a3 c.vector.length m2.c3) := fun y => y.cell (X4.cell (i := 5) rfl)
      have x6 : ∀ y : After W5, y.to.cell? ⟨w4.heap.size, 6, none⟩ = some (.slice m2.a4 c.who.length m2.c4) := fun y => y.cell (X4.cell (i := 6) rfl)
      have x7 : ∀ y : After W5, y.to.cell? ⟨w4.heap.size, 7, none⟩ = some (.slice m2.a5 c.openings.length m2.c5) := fun y => y.cell (X4.cell (i := 7) rfl)
      have D1 := hide (fun y : After W5 => awake15 y.to)
      have D2 := hide (fun y : After W5 => C6.out y.to (O4.out.trans y.old))
      have D3 := hide (fun y : After W5 => C7.out y.to)
      have D4 := hide (fun y : After W5 => refSame15_any c c m2 m y.to (F5.out.mono y.old) (HF.out.mono (O4.out.trans y.old)) (by have := hs.out; omega))
      have D5 := hide (fun y : After W5 => same15_any c c m2 m y.to (F5.out.mono y.old) (HF.out.mono (O4.out.trans y.old)))
      rw [decide_eq_true rfl] at D4 D5
      have CV : ∀ y : After W5, (convert 32 9 (.slice (some ⟨g, 0, none⟩) L.length cap)).run Try.prog y.to = .ok (.string (Ssb.bstr L)) y.to := fun y => Ssb.run_bstr Try.underlying32 Try.underlying5 Try.underlying9 rfl (Y4.out.mono y.old).rd
      have ne : Nonempty (After W5) := ⟨⟨_, Old.refl _⟩⟩
      clear R4 X4 C6 C7 F5 Y4 HF hs FF
      generalize textT c = T at *
      unfold wdc at *
      go_wp2_with fail
      rw [← HW.out]
      refine wp_region_calm (by kernel_rfl) (by kernel_rfl) ?_
      repeat (go_big_quiet_step (first | with_reducible exact calm_of (D1.out _) | with_reducible exact calm_of (D2.out _) | with_reducible exact calm_of (D3.out _) | with_reducible exact calm_of (D4.out _) | with_reducible exact calm_of (D5.out _)))
      refine wpQuiet_nil ?_
      rintro _ ⟨⟨w6, o6⟩, rfl⟩
      have O6 := hide (O4.out.trans o6)
      go_wp2
      go_ret
      exact ⟨by simp, O6.out⟩
  · rw [hl] at C1
    clear hl
    unfold wdc at *
    go_enter Try.func4, Try.ntmps4
    go_wp2_with fail
    refine (C1.out _).mono ?_
    rintro e w1 ⟨rfl, o1⟩
    have O1 := hide (O0.out.trans o1)
    clear o1 C1
    go_wp2_with fail
    refine (awake15 _).mono ?_
    rintro e w4 ⟨rfl, o4⟩
    have O4 := hide (O1.out.trans o4)
    clear o4
    go_wp2
    go_ret
    exact ⟨by simp, O4.out⟩
end Go.Proofs.Ytepchjpdfmleoaa
