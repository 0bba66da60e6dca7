/-
  Layer 15's statements WordsGood, WordsReads.
-/
import Derived.Test.YtepchjpdfmleoaaMgAw
import Derived.Test.YtepchjpdfmleoaaOpenWd
import Derived.Test.YtepchjpdfmleoaaMgGood
import Derived.Test.YtepchjpdfmleoaaMgText
namespace Go.Proofs.Ytepchjpdfmleoaa
open Go.RowKit Cn Pn Wn Rn
set_option linter.unusedVariables false

set_option maxRecDepth 100000 in
set_option maxHeartbeats 4000000 in
theorem walk_WordsGood (v0 : Value) (w : World) (w0 : IsWord w v0) :
    Calls Try.prog 3 #[v0] w fun e w' => e = .returned (.bool true) ∧ Old w w' := by
  obtain ⟨c, m, rfl, F, CP⟩ := w0
  have O0 := hide (Old.of_alloc w (.cells (wdc c m).toArray 29))
  obtain ⟨wr, hwr⟩ : ∃ wr, wr = w.alloc (.cells (wdc c m).toArray 29) := ⟨_, rfl⟩
  have R := Row.new w 29 (wdc c m)
  rw [← hwr] at O0 R
  have HW := hide hwr
  have d0 : ∀ y : After wr, y.to.cell? ⟨w.heap.size, 0, none⟩ = some (.int .i64 c.kind) := fun y => y.cell (R.cell (i := 0) rfl)
  have d1 : ∀ y : After wr, y.to.cell? ⟨w.heap.size, 1, none⟩ = some (.int .i64 c.frm) := fun y => y.cell (R.cell (i := 1) rfl)
  have d2 : ∀ y : After wr, y.to.cell? ⟨w.heap.size, 2, none⟩ = some (.int .i64 c.why) := fun y => y.cell (R.cell (i := 2) rfl)
  have d3 : ∀ y : After wr, y.to.cell? ⟨w.heap.size, 3, none⟩ = some (.slice m.a1 c.cards.length m.c1) := fun y => y.cell (R.cell (i := 3) rfl)
  have d4 : ∀ y : After wr, y.to.cell? ⟨w.heap.size, 4, none⟩ = some (.slice m.a2 c.parcels.length m.c2) := fun y => y.cell (R.cell (i := 4) rfl)
  have d5 : ∀ y : After wr, y.to.cell? ⟨w.heap.size, 5, none⟩ = some (.slice m.a3 c.vector.length m.c3) := fun y => y.cell (R.cell (i := 5) rfl)
  have d6 : ∀ y : After wr, y.to.cell? ⟨w.heap.size, 6, none⟩ = some (.slice m.a4 c.who.length m.c4) := fun y => y.cell (R.cell (i := 6) rfl)
  have d7 : ∀ y : After wr, y.to.cell? ⟨w.heap.size, 7, none⟩ = some (.slice m.a5 c.openings.length m.c5) := fun y => y.cell (R.cell (i := 7) rfl)
  have C1 := hide (fun y : After wr => awake15 y.to)
  have C2 := hide (fun y : After wr => large_any c m y.to)
  have ne : Nonempty (After wr) := ⟨⟨_, Old.refl _⟩⟩
  cases hl : largeB c
  · rw [hl] at C2
    have hs := large_no hl
    have C3 := hide (fun y : After wr => good15_any c m y.to (F.mono (O0.out.trans y.old)))
    have C4 := hide (fun y : After wr => refGood15_all c m y.to (F.mono (O0.out.trans y.old)) (by omega))
    clear F R hwr hl hs CP
    generalize goodB c = gg at *
    unfold wdc at *
    cases gg
    all_goals
      go_enter Try.func3, Try.ntmps3
      go_wp2_with fail
      rw [← HW.out]
      refine wp_region_calm (by kernel_rfl) (by kernel_rfl) ?_
      repeat (go_big_quiet_step (first | with_reducible exact calm_of (C1.out _) | with_reducible exact calm_of (C2.out _) | with_reducible exact calm_of (C3.out _) | with_reducible exact calm_of (C4.out _)))
      refine wpQuiet_nil ?_
      rintro _ ⟨⟨w3, o3⟩, rfl⟩
      have O3 := hide (O0.out.trans o3)
      go_wp2
      go_ret
      exact ⟨by simp, O3.out⟩
  · rw [hl] at C2
    clear F R hwr hl CP
    unfold wdc at *
    go_enter Try.func3, Try.ntmps3
    go_wp2_with fail
    rw [← HW.out]
    refine wp_region_calm (by kernel_rfl) (by kernel_rfl) ?_
    repeat (go_big_quiet_step (first | with_reducible exact calm_of (C1.out _) | with_reducible exact calm_of (C2.out _)))
    refine wpQuiet_nil ?_
    rintro _ ⟨⟨w3, o3⟩, rfl⟩
    have O3 := hide (O0.out.trans o3)
    go_wp2
    go_ret
    exact ⟨by simp, O3.out⟩
end Go.Proofs.Ytepchjpdfmleoaa
