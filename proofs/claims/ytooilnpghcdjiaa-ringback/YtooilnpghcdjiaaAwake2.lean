/-
  The fixed fact of layer 2's statements (offertorylaw02.awake) is true.
-/
import Derived.Test.YtooilnpghcdjiaaRing
import Derived.Test.YtooilnpghcdjiaaCells
namespace Go.Proofs.Ytooilnpghcdjiaa
open Go.RowKit Vec
set_option linter.unusedVariables false

theorem aw_add : List.zipWith add32 [1, 4294967295] [2, 3] = [3, 2] := by decide +kernel
theorem aw_sub : List.zipWith sub32 [3, 2] [3, 3] = [0, 4294967295] := by decide +kernel
theorem aw_sum : sumv 2 [[3, 2], [0, 4294967295]] = [3, 1] := by decide +kernel
theorem rds_two {k : IntKind} {w : World} {al : Option Addr} {a b : Option Addr} {n m ca cb : Nat} {xs ys : List Nat} (h : Rd w al [.slice a n ca, .slice b m cb]) (hx : xs.length = n) (hy : ys.length = m)
    (rx : Rd w a (nums k xs)) (ry : Rd w b (nums k ys)) : Rds k w al [(⟨a, n, ca⟩, xs), (⟨b, m, cb⟩, ys)] := by
  refine ⟨h, fun p hp => ?_⟩
  simp at hp
  rcases hp with rfl | rfl
  · exact ⟨hx, rx⟩
  · exact ⟨hy, ry⟩
theorem rds_one {k : IntKind} {w : World} {al : Option Addr} {a : Option Addr} {n ca : Nat} {xs : List Nat} (h : Rd w al [.slice a n ca]) (hx : xs.length = n)
    (rx : Rd w a (nums k xs)) : Rds k w al [(⟨a, n, ca⟩, xs)] := by
  refine ⟨h, fun p hp => ?_⟩
  simp at hp
  subst hp
  exact ⟨hx, rx⟩

set_option maxHeartbeats 1000000 in
theorem awake2 (w : World) : Calls Try.prog 9 #[] w fun e w' => e = .returned (.bool true) ∧ Old w w' := by
  go_enter Try.func9, Try.ntmps9
  go_wp2_with fail
  refine (Add_ok 2 [1, 4294967295] [2, 3] _ _ 2 2 _ (by omega) (by rfl) (by rfl) ?_ ?_).mono ?_
  · exact rd_past (rd_new rfl (by simp [nums])) _
  · exact rd_new (by simp) (by simp [nums])
  rintro e w1 ⟨g1, rfl, r1, o1⟩
  rw [aw_add] at r1
  have O1 := hide <| ((Old.of_alloc _ _).alloc _).trans o1
  clear o1
  go_wp2_with fail
  refine (Sub_ok 2 [3, 2] [3, 3] _ _ 2 2 _ (by omega) (by rfl) (by rfl) (by simp) ?_ ?_).mono ?_
  · exact rd_past r1 _
  · exact rd_new (by simp) (by simp [nums])
  rintro e w2 ⟨g2, rfl, r2, o2⟩
  rw [aw_sub] at r2
  have o12 := (Old.of_alloc _ _).trans o2
  have O2 := hide <| O1.out.trans o12
  replace r1 := r1.mono o12
  clear o2 O1 o12
  go_wp2_with fail
  refine (Sum_ok 2 [(⟨some ⟨g1, 0, none⟩, 2, 2⟩, [3, 2]), (⟨some ⟨g2, 0, none⟩, 2, 2⟩, [0, 4294967295])] 2 _ 2 _ (by rfl) (by omega) ?_ (by omega) (by simp)).mono ?_
  · exact rds_two (rd_new (by simp) (by simp)) (by rfl) (by rfl) (rd_past r1 _) (rd_past r2 _)
  rintro e w3 ⟨g3, rfl, r3, o3⟩
  rw [show sumv 2 (List.map (·.2) [((⟨some ⟨g1, 0, none⟩, 2, 2⟩ : Sl), [3, 2]), (⟨some ⟨g2, 0, none⟩, 2, 2⟩, [0, 4294967295])]) = [3, 1] from aw_sum] at r3
  have o12 := (Old.of_alloc _ _).trans o3
  have O3 := hide <| O2.out.trans o12
  replace r1 := r1.mono o12
  replace r2 := r2.mono o12
  clear o3 O2 o12
  go_wp2_with fail
  refine (Sum_no 1 [(⟨some ⟨g1, 0, none⟩, 2, 2⟩, [3, 2])] 1 _ 1 _ (by rfl) (by omega) ?_ (by simp)).mono ?_
  · exact rds_one (rd_new (by simp) (by simp)) (by rfl) (rd_past r1 _)
  rintro e w4 ⟨rfl, rfl⟩
  go_wp2_with fail
  refine (R1.Cells_any 2 2 [3, 2] [3, 2] _ _ 2 2 _ (by omega) (by rfl) (by rfl) ?_ ?_).mono ?_
  · exact rd_past (rd_past r1 _) _
  · exact rd_new (by simp) (by simp [nums])
  rintro e w5 ⟨rfl, o5⟩
  have o12 := ((Old.of_alloc _ _).alloc _).trans o5
  have O5 := hide <| O3.out.trans o12
  replace r2 := r2.mono o12
  replace r3 := r3.mono o12
  clear o5 O3 o12
  rw [show decide ([3, 2] = [3, 2]) = true from by decide]
  go_wp2_with fail
  refine (R1.Cells_any 2 2 [0, 4294967295] [0, 4294967295] _ _ 2 2 _ (by omega) (by rfl) (by rfl) ?_ ?_).mono ?_
  · exact rd_past r2 _
  · exact rd_new (by simp) (by simp [nums])
  rintro e w6 ⟨rfl, o6⟩
  have o12 := (Old.of_alloc _ _).trans o6
  have O6 := hide <| O5.out.trans o12
  replace r3 := r3.mono o12
  clear o6 O5 o12
  rw [show decide ([0, 4294967295] = [0, 4294967295]) = true from by decide +kernel]
  go_wp2_with fail
  refine (R1.Cells_any 2 2 [3, 1] [3, 1] _ _ 2 2 _ (by omega) (by rfl) (by rfl) ?_ ?_).mono ?_
  · exact rd_past r3 _
  · exact rd_new (by simp) (by simp [nums])
  rintro e w7 ⟨rfl, o7⟩
  have O7 := hide <| O6.out.trans ((Old.of_alloc _ _).trans o7)
  clear o7 O6
  rw [show decide ([3, 1] = [3, 1]) = true from by decide]
  go_wp2
  go_ret
  exact ⟨rfl, O7.out⟩
end Go.Proofs.Ytooilnpghcdjiaa
