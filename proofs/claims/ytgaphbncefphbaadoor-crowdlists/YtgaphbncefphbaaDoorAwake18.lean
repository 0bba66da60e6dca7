/-
  Layer 18's fixed fact, if the layer's calls are what they owe.
-/
import Derived.Test.YtgaphbncefphbaaDoorCrowdC
namespace Go.Proofs.YtgaphbncefphbaaDoor
open Go.RowKit Pn Cr
set_option linter.unusedVariables false

theorem rd_row {w : World} {g : Nat} {l : List Int} (R : Row w g 3 (ints l)) : Rd w (some ⟨g, 0, none⟩) (ints l) := R.rd

set_option maxRecDepth 100000 in
set_option maxHeartbeats 2000000 in
theorem awake18 (K : CrowdK) (w : World) (T : Tab w) : Calls Tryd.prog 9 #[] w fun e w' => e = .returned (.bool true) ∧ Old w w' := by
  have KK := hide K
  have e1 : ofV [5, 1, 64] = 9223372036854775825 := by decide
  have e2 : ofE [5, 1, 64] = 0 := by decide
  have e3 : ofE [1, 1] = 8 := by decide
  have e4 : sizeC 9223372036854775825 = 3 := by decide
  have e5 : listZ 9223372036854775825 = [1, 5, 64] := by decide
  have e6 : hasC 9223372036854775825 64 = true := by decide
  have e7 : allC (min (2 : Int).toNat 64) = 3 := by decide
  have e8 : withinC 3 7 = true := by decide
  have R1 := hide (rd_row (Row.new w 3 (ints [5, 1, 64])))
  have C1 := hide (KK.out.ofK (some ⟨w.heap.size, 0, none⟩) 3 3 [5, 1, 64] rfl (by omega) (by omega) _ R1.out)
  rw [e1, e2] at C1
  have C3 := hide (fun (w' : World) (o : Old w w') => KK.out.listK 9223372036854775825 (by omega) w' (T.mono o))
  rw [e4, e5] at C3
  have C4 := hide (fun w' : World => KK.out.sizeK 9223372036854775825 (by omega) w')
  rw [e4] at C4
  have C5 := hide (fun w' : World => KK.out.hasK 9223372036854775825 (by omega) 64 w')
  rw [e6] at C5
  have C6 := hide (fun w' : World => KK.out.allK 2 w')
  rw [e7] at C6
  have C7 := hide (fun w' : World => KK.out.withinK 3 7 (by omega) (by omega) w')
  rw [e8] at C7
  have O0 := hide (Old.of_alloc w (.cells (ints [5, 1, 64]).toArray 3))
  clear e1 e2 e4 e5 e6 e7 e8
  go_enter Tryd.func9, Tryd.ntmps9
  go_wp2_with fail
  refine C1.out.mono ?_
  rintro e w1 ⟨rfl, o1⟩
  have O1 := hide (O0.out.trans o1)
  have R2 := hide (rd_row (Row.new w1 3 (ints [1, 1])))
  have C2 := hide (KK.out.ofK (some ⟨w1.heap.size, 0, none⟩) 2 2 [1, 1] rfl (by omega) (by omega) _ R2.out)
  rw [e3] at C2
  clear e3
  have O1b := hide (O1.out.trans (Old.of_alloc w1 (.cells (ints [1, 1]).toArray 3)))
  clear C1 R1 O0 o1 R2
  go_wp2_with fail
  refine C2.out.mono ?_
  rintro e w2 ⟨rfl, o2⟩
  have O2 := hide (O1b.out.trans o2)
  clear C2 O1 O1b o2
  go_wp2_with fail
  refine (C3.out _ O2.out).mono ?_
  rintro e w3 ⟨a, cap, rfl, -, r3, o3⟩
  have O3 := hide (O2.out.trans o3)
  have C8 := hide (Ints_any 3 3 [1, 5, 64] [1, 5, 64] a (some ⟨w3.heap.size, 0, none⟩) cap 3 _ (by omega) rfl rfl (r3.mono (Old.of_alloc w3 (.cells (ints [1, 5, 64]).toArray 3))) (rd_row (Row.new w3 3 (ints [1, 5, 64]))))
  rw [decide_eq_true rfl] at C8
  have O3b := hide (O3.out.trans (Old.of_alloc w3 (.cells (ints [1, 5, 64]).toArray 3)))
  clear C3 O2 o3 r3 O3
  go_wp2_with fail
  refine C8.out.mono ?_
  rintro e w4 ⟨rfl, o4⟩
  have O4 := hide (O3b.out.trans o4)
  clear C8 O3b o4
  go_wp2_with fail
  refine (C4.out _).mono ?_
  rintro e w5 ⟨rfl, o5⟩
  have O5 := hide (O4.out.trans o5)
  clear C4 O4 o5
  go_wp2_with fail
  refine (C5.out _).mono ?_
  rintro e w6 ⟨rfl, o6⟩
  have O6 := hide (O5.out.trans o6)
  clear C5 O5 o6
  go_wp2_with fail
  refine (C6.out _).mono ?_
  rintro e w7 ⟨rfl, o7⟩
  have O7 := hide (O6.out.trans o7)
  clear C6 O6 o7
  go_wp2_with fail
  refine (C7.out _).mono ?_
  rintro e w8 ⟨rfl, o8⟩
  have O8 := hide (O7.out.trans o8)
  clear C7 O7 o8
  go_wp2
  go_ret
  exact ⟨rfl, O8.out⟩
end Go.Proofs.YtgaphbncefphbaaDoor
