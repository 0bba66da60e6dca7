/-
  Layer 15's statement WordsReads.
-/
import Derived.Test.YtepchjpdfmleoaaLaws15
import Derived.Test.YtepchjpdfmleoaaOpen
namespace Go.Proofs.Ytepchjpdfmleoaa
open Go.RowKit Cn Pn Wn Rn
set_option linter.unusedVariables false

/-- Bytes that came in. -/
theorem By14.of15 {M : Nat} {w : World} {v : Value} (h : IsNums .u8 256 M w v) (hM : M ≤ 9223372036854775807) : ∃ b n cap xs, v = .slice b n cap ∧ By14 w b n cap xs := by
  obtain ⟨b, n, cap, xs, rfl, h1, h2, h3, h4, h5⟩ := h
  exact ⟨b, n, cap, xs, rfl, h1, h5, by omega, h2, h3⟩

set_option maxRecDepth 100000 in
set_option maxHeartbeats 4000000 in
theorem walk_WordsReads (v0 : Value) (w : World) (w0 : IsNums .u8 256 140737488351232 w v0) :
    Calls Try.prog 5 #[v0] w fun e w' => e = .returned (.bool true) ∧ Old w w' := by
  obtain ⟨a, n, cap, xs, rfl, Y⟩ := By14.of15 w0 (by omega)
  have C0 := hide (decode_any a n cap xs w Y)
  have HY := hide Y
  clear w0 Y
  cases hd : decB xs
  · go_enter Try.func5, Try.ntmps5
    go_wp2_with fail
    refine C0.out.mono ?_
    rintro e w1 he
    unfold DecR at he
    rw [hd] at he
    obtain ⟨rfl, o1⟩ := he
    have O1 := hide o1
    have C1 := awake15
    have C2 := fun wr : World => refSame15_any zeroW zeroW zeroM zeroM wr (zeroIn wr) (zeroIn wr) (by decide)
    simp only [wdc, zeroW, zeroM, List.length_nil] at C2 ⊢
    clear C0 o1 hd HY
    go_wp2_with fail
    refine (C1 _).mono ?_
    rintro e w2 ⟨rfl, o2⟩
    have R2 := (Row.new w1 29 [.int .i64 0, .int .i64 0, .int .i64 0, .slice none 0 0, .slice none 0 0, .slice none 0 0, .slice none 0 0, .slice none 0 0]).mono o2
    have O2 := hide ((O1.out.trans (Old.of_alloc w1 _)).trans o2)
    have d0 := R2.cell (i := 0) rfl
    have d1 := R2.cell (i := 1) rfl
    have d2 := R2.cell (i := 2) rfl
    have d3 := R2.cell (i := 3) rfl
    have d4 := R2.cell (i := 4) rfl
    have d5 := R2.cell (i := 5) rfl
    have d6 := R2.cell (i := 6) rfl
    have d7 := R2.cell (i := 7) rfl
    clear R2 o2
    go_wp2_with fail
    refine (C2 _).mono ?_
    rintro e w3 ⟨rfl, o3⟩
    have O3 := hide (O2.out.trans o3)
    clear o3 d0 d1 d2 d3 d4 d5 d6 d7
    go_wp2
    go_ret
    exact ⟨by simp, O3.out⟩
  · obtain ⟨hg, hx⟩ := decB_fwd HY.out.each hd
    go_enter Try.func5, Try.ntmps5
    go_wp2_with fail
    refine C0.out.mono ?_
    rintro e w1 he
    unfold DecR at he
    rw [if_pos hd] at he
    obtain ⟨m, rfl, F, o1, _⟩ := he
    generalize (rWord (rs0 xs)).1 = c at *
    have FF := good_fine hg
    have BT := text_lt (c := c) (fun x hx => (F.parcelB x hx).2.2.1)
    have O1 : Hid (Old w (w1.alloc (.cells (wdc c m).toArray 29))) := o1.trans (Old.of_alloc _ _)
    have F1 := hide (F.mono (Old.of_alloc w1 (.cells (wdc c m).toArray 29)))
    have R1 := Row.new w1 29 (wdc c m)
    have RY := hide (fun y : After (w1.alloc (.cells (wdc c m).toArray 29)) => (HY.out.rd.mono (o1.trans (Old.of_alloc _ _))).mono y.old)
    have LN := HY.out.len
    clear C0 o1 F HY hd
    obtain ⟨W2, hW2⟩ : ∃ W2, W2 = w1.alloc (.cells (wdc c m).toArray 29) := ⟨_, rfl⟩
    rw [← hW2] at O1 F1 R1 RY
    have HW := hide hW2
    clear hW2
    have d0 : ∀ y : After W2, y.to.cell? ⟨w1.heap.size, 0, none⟩ = some (.int .i64 c.kind) := fun y => y.cell (R1.cell (i := 0) rfl)
    have d1 : ∀ y : After W2, y.to.cell? ⟨w1.heap.size, 1, none⟩ = some (.int .i64 c.frm) := fun y => y.cell (R1.cell (i := 1) rfl)
    have d2 : ∀ y : After W2, y.to.cell? ⟨w1.heap.size, 2, none⟩ = some (.int .i64 c.why) := fun y => y.cell (R1.cell (i := 2) rfl)
    have d3 : ∀ y : After W2, y.to.cell? ⟨w1.heap.size, 3, none⟩ = some (.slice m.a1 c.cards.length m.c1) := fun y => y.cell (R1.cell (i := 3) rfl)
    have d4 : ∀ y : After W2, y.to.cell? ⟨w1.heap.size, 4, none⟩ = some (.slice m.a2 c.parcels.length m.c2) := fun y => y.cell (R1.cell (i := 4) rfl)
    have d5 : ∀ y : After W2, y.to.cell? ⟨w1.heap.size, 5, none⟩ = some (.slice m.a3 c.vector.length m.c3) := fun y => y.cell (R1.cell (i := 5) rfl)
    have d6 : ∀ y : After W2, y.to.cell? ⟨w1.heap.size, 6, none⟩ = some (.slice m.a4 c.who.length m.c4) := fun y => y.cell (R1.cell (i := 6) rfl)
    have d7 : ∀ y : After W2, y.to.cell? ⟨w1.heap.size, 7, none⟩ = some (.slice m.a5 c.openings.length m.c5) := fun y => y.cell (R1.cell (i := 7) rfl)
    have C1 := hide (fun y : After W2 => awake15 y.to)
    have C2 := hide (fun y : After W2 => refGood15_all c m y.to (F1.out.mono y.old) ⟨by have := FF.cards.1; omega, by have := FF.parcels.1; omega, by have := FF.vector; omega, by have := FF.who.1; omega, by have := FF.openings.1; omega⟩)
    rw [hg] at C2
    have C3 := hide (fun y : After W2 => refText15_any c m y.to (F1.out.mono y.old) FF.text)
    have C4 := hide (fun y : After W2 => refSealed14_any (textT c) BT (by have := text_len FF; omega) y.to)
    have CV : ∀ y : After W2, (convert 32 9 (.slice a n cap)).run Try.prog y.to = .ok (.string (Ssb.bstr xs)) y.to := fun y => Ssb.run_bstr Try.underlying32 Try.underlying5 Try.underlying9 LN (RY.out y)
    have ne : Nonempty (After W2) := ⟨⟨_, Old.refl _⟩⟩
    rw [← hx] at C4
    clear R1 FF BT F1 hg RY LN hx
    generalize textT c = T at *
    unfold wdc at *
    go_wp2_with fail
    rw [← HW.out]
    refine wp_region_calm (by kernel_rfl) (by kernel_rfl) ?_
    repeat (go_big_quiet_step (first | with_reducible exact calm_of (C1.out _) | with_reducible exact calm_of (C2.out _) | with_reducible exact calm_of (C3.out _) | with_reducible exact calm_of (C4.out _)))
    refine wpQuiet_nil ?_
    rintro _ ⟨⟨w3, o3⟩, rfl⟩
    have O3 := hide (O1.out.trans o3)
    go_wp2
    go_ret
    exact ⟨by simp, O3.out⟩
end Go.Proofs.Ytepchjpdfmleoaa
