/-
  Layer 18's statements CrowdBack and CrowdParts, if the layer's calls are what they owe.
-/
import Derived.Test.YtgaphbncefphbaaDoorAwake18
import Derived.Test.YtgaphbncefphbaaDoorOpen
import Derived.Laws.BitsAll
namespace Go.Proofs.YtgaphbncefphbaaDoor
open Go.RowKit Pn Cr
set_option linter.unusedVariables false

theorem mk64c {v : Value} (h : IsInt .u64 v) : ∃ n : Nat, n < 18446744073709551616 ∧ v = .int .u64 (n : Int) := by
  obtain ⟨a, rfl, h⟩ := h
  have := bounds_u64 h
  exact ⟨a.toNat, by omega, by congr; omega⟩
theorem mkIc {v : Value} (h : IsInt .i64 v) : ∃ n : Int, v = .int .i64 n ∧ -9223372036854775808 ≤ n ∧ n ≤ 9223372036854775807 := by
  obtain ⟨a, rfl, h⟩ := h
  have := bounds_i64 h
  exact ⟨a, rfl, by omega, by omega⟩

set_option maxRecDepth 100000 in
set_option maxHeartbeats 2000000 in
theorem walkK_CrowdBack (K : CrowdK) (v0 : Value) (w : World) (w0 : IsInt .u64 v0) (T : Tab w) :
    Calls Tryd.prog 6 #[v0] w fun e w' => e = .returned (.bool true) ∧ Old w w' := by
  obtain ⟨c, hc, rfl⟩ := mk64c w0
  have AW := hide (fun (w' : World) (o : Old w w') => awake18 K w' (T.mono o))
  have C1 := hide (K.listK c hc w T)
  have C2 := hide (fun (a : Option Addr) (cap : Nat) (w' : World) (hs : sizeC c ≤ cap) (h : Rd w' a (ints (listZ c))) => K.ofK a (sizeC c) cap (listZ c) (by unfold listZ sizeC; simp) (by have := sizeC_le c; omega) hs w' h)
  rw [(listZ_back hc).1, (listZ_back hc).2] at C2
  have C3 := hide (K.withinK c c hc hc)
  rw [within_self] at C3
  have C4 := hide (K.allK 64)
  have e4 : allC (min (64 : Int).toNat 64) = 18446744073709551615 := by decide
  rw [e4] at C4
  have C5 := hide (K.withinK c 18446744073709551615 hc (by omega))
  have e5 : withinC c 18446744073709551615 = true := within_all c
  rw [e5] at C5
  have C6 := hide (K.withinK 0 c (by omega) hc)
  rw [none_within] at C6
  generalize sizeC c = m at *
  clear K w0 e4 e5
  go_enter Tryd.func6, Tryd.ntmps6
  go_wp2_with fail
  refine C1.out.mono ?_
  rintro e w1 ⟨a, cap, rfl, hcap, r1, o1⟩
  have C2 := hide (C2.out a cap w1 hcap r1)
  have O1 := hide o1
  clear r1 o1 C1 hcap
  go_wp2_with fail
  refine C2.out.mono ?_
  rintro e w2 ⟨rfl, o2⟩
  have O2 := hide (O1.out.trans o2)
  clear O1 o2 C2
  go_wp2_with fail
  refine (AW.out _ O2.out).mono ?_
  rintro e w3 ⟨rfl, o3⟩
  have O3 := hide (O2.out.trans o3)
  clear O2 o3
  go_wp2_with fail
  refine (C3.out _).mono ?_
  rintro e w4 ⟨rfl, o4⟩
  have O4 := hide (O3.out.trans o4)
  clear O3 o4
  go_wp2_with fail
  refine (C4.out _).mono ?_
  rintro e w5 ⟨rfl, o5⟩
  have O5 := hide (O4.out.trans o5)
  clear O4 o5
  go_wp2_with fail
  refine (C5.out _).mono ?_
  rintro e w6 ⟨rfl, o6⟩
  have O6 := hide (O5.out.trans o6)
  clear O5 o6
  go_wp2_with fail
  refine (C6.out _).mono ?_
  rintro e w7 ⟨rfl, o7⟩
  go_wp2
  go_ret
  exact ⟨rfl, O6.out.trans o7⟩

set_option maxRecDepth 100000 in
set_option maxHeartbeats 2000000 in
theorem walkK_CrowdParts (K : CrowdK) (v0 v1 v2 : Value) (w : World) (w0 : IsInt .u64 v0) (w1 : IsInt .u64 v1) (w2 : IsInt .i64 v2) (T : Tab w) :
    Calls Tryd.prog 7 #[v0, v1, v2] w fun e w' => e = .returned (.bool true) ∧ Old w w' := by
  obtain ⟨a, ha, rfl⟩ := mk64c w0
  obtain ⟨b, hb, rfl⟩ := mk64c w1
  obtain ⟨n, rfl, -, -⟩ := mkIc w2
  have AW := hide (fun (w' : World) (o : Old w w') => awake18 K w' (T.mono o))
  have hbo : a &&& b < 18446744073709551616 := Nat.lt_of_le_of_lt Nat.and_le_left ha
  have hon : a &&& turn b < 18446744073709551616 := Nat.lt_of_le_of_lt Nat.and_le_left ha
  have C1 := hide (K.sizeK (a &&& b) hbo)
  have C2 := hide (K.sizeK (a &&& turn b) hon)
  have C3 := hide (K.sizeK a ha)
  have C4 := hide (K.withinK (a &&& b) a hbo ha)
  rw [within_both_l] at C4
  have C5 := hide (K.withinK (a &&& b) b hbo hb)
  rw [within_both_r] at C5
  have C6 := hide (K.withinK (a &&& turn b) a hon ha)
  rw [within_both_l] at C6
  have C7 := hide (K.hasK a ha n)
  rw [has_parts a b hb n] at C7
  have C8 := hide (K.hasK (a &&& b) hbo n)
  have C9 := hide (K.hasK (a &&& turn b) hon n)
  have CA := hide (K.withinK a b ha hb)
  rw [within_one hb] at CA
  have L1 := sizeC_le (a &&& b)
  have L2 := sizeC_le (a &&& turn b)
  have eA : bits .and .u64 (a : Int) (b : Int) = ((a &&& b : Nat) : Int) := u64_and_nat a b ha hb
  have eN : bits .andNot .u64 (a : Int) (b : Int) = ((a &&& turn b : Nat) : Int) := u64_andNot_nat a b ha hb
  have eS : ((((sizeC (a &&& b) : Nat) : Int) + ((sizeC (a &&& turn b) : Nat) : Int)) == ((sizeC a : Nat) : Int)) = true := by
    rw [beq_iff_eq]
    have := parts a b hb
    omega
  have eQ : (((a &&& turn b : Nat) : Int) == 0) = decide (a &&& turn b = 0) := by
    rw [Bool.eq_iff_iff, beq_iff_eq, decide_eq_true_eq]
    omega
  generalize decide (a &&& turn b = 0) = z at *
  generalize hasC (a &&& b) n = x at *
  generalize hasC (a &&& turn b) n = y at *
  generalize sizeC (a &&& b) = sp at *
  generalize sizeC (a &&& turn b) = sq at *
  generalize sizeC a = sa at *
  generalize a &&& b = p at *
  generalize a &&& turn b = q at *
  clear K w0 w1 w2
  go_enter Tryd.func7, Tryd.ntmps7
  go_wp2_with fail
  refine (AW.out _ (Old.refl _)).mono ?_
  rintro e w1 ⟨rfl, o1⟩
  have O1 := hide o1
  clear o1
  go_wp2_with fail
  refine (C1.out _).mono ?_
  rintro e w2 ⟨rfl, o2⟩
  have O2 := hide (O1.out.trans o2)
  clear O1 o2
  go_wp2_with fail
  refine (C2.out _).mono ?_
  rintro e w3 ⟨rfl, o3⟩
  have O3 := hide (O2.out.trans o3)
  clear O2 o3
  go_wp2_with fail
  refine (C3.out _).mono ?_
  rintro e w4 ⟨rfl, o4⟩
  have O4 := hide (O3.out.trans o4)
  clear O3 o4
  go_wp2_with fail
  refine (C4.out _).mono ?_
  rintro e w5 ⟨rfl, o5⟩
  have O5 := hide (O4.out.trans o5)
  clear O4 o5
  go_wp2_with fail
  refine (C5.out _).mono ?_
  rintro e w6 ⟨rfl, o6⟩
  have O6 := hide (O5.out.trans o6)
  clear O5 o6
  go_wp2_with fail
  refine (C6.out _).mono ?_
  rintro e w7 ⟨rfl, o7⟩
  have O7 := hide (O6.out.trans o7)
  clear O6 o7
  go_wp2_with fail
  refine (C7.out _).mono ?_
  rintro e w8 ⟨rfl, o8⟩
  have O8 := hide (O7.out.trans o8)
  clear O7 o8
  go_wp2_with fail
  refine (C8.out _).mono ?_
  rintro e w9 ⟨rfl, o9⟩
  have O9 := hide (O8.out.trans o9)
  clear O8 o9
  cases x
  · simp only [Bool.false_or]
    go_wp2_with fail
    refine (C9.out _).mono ?_
    rintro e wa ⟨rfl, oa⟩
    have OA := hide (O9.out.trans oa)
    clear O9 oa
    go_wp2_with fail
    refine (CA.out _).mono ?_
    rintro e wb ⟨rfl, ob⟩
    go_wp2
    go_ret
    exact ⟨by first | rfl | simp, OA.out.trans ob⟩
  · simp only [Bool.true_or]
    go_wp2_with fail
    refine (CA.out _).mono ?_
    rintro e wb ⟨rfl, ob⟩
    go_wp2
    go_ret
    exact ⟨by first | rfl | simp, O9.out.trans ob⟩
end Go.Proofs.YtgaphbncefphbaaDoor
