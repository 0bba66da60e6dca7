/-
  Layer 18's statement CrowdLists, if the layer's calls are what they owe.
-/
import Derived.Test.YtgaphbncefphbaaDoorLaws18
import Derived.Test.YtgaphbncefphbaaDoorOwnI
namespace Go.Proofs.YtgaphbncefphbaaDoor
open Go.RowKit Pn Cr
set_option linter.unusedVariables false

namespace Cr
def lz (c k : Nat) : List Int := (lsTo c k).map Int.ofNat
theorem lz_yes {c k : Nat} (h : c.testBit k = true) : lz c (k + 1) = lz c k ++ [(k : Int) + 1] := by
  unfold lz
  rw [lsTo_next, if_pos h, List.map_append]
  rfl
theorem lz_no {c k : Nat} (h : c.testBit k = false) : lz c (k + 1) = lz c k := by
  unfold lz
  rw [lsTo_next, if_neg (by simp [h]), List.append_nil]
theorem lz_length (c k : Nat) : (lz c k).length ≤ k := by
  unfold lz lsTo
  rw [List.length_map, List.length_map]
  exact Nat.le_trans (List.length_filter_le _ _) (by simp)
theorem lz_all (c : Nat) : lz c 64 = listZ c := rfl
theorem listZ_length (c : Nat) : (listZ c).length = sizeC c := by
  unfold listZ sizeC
  rw [List.length_map]
end Cr

set_option maxRecDepth 100000 in
set_option maxHeartbeats 2000000 in
theorem walkK_CrowdLists (K : CrowdK) (v0 : Value) (w : World) (w0 : IsInt .u64 v0) (T : Tab w) :
    Calls Tryd.prog 4 #[v0] w fun e w' => e = .returned (.bool true) ∧ Old w w' := by
  obtain ⟨c, hc, rfl⟩ := mk64c w0
  have AW := hide (fun (w' : World) (o : Old w w') => awake18 K w' (T.mono o))
  have C1 := hide (fun (w' : World) (o : Old w w') => K.listK c hc w' (T.mono o))
  have C2 := hide (K.sizeK c hc)
  clear K w0
  have W0 : Hid (OwnsI (w.alloc (.cells #[] 3)) w.heap.size (.slice (some ⟨w.heap.size, 0, none⟩) 0 0) (lz c 0) ∧ Old w (w.alloc (.cells #[] 3))) := ⟨OwnsI.empty w _ (Nat.le_refl _), Old.of_alloc _ _⟩
  go_enter Tryd.func4, Tryd.ntmps4
  go_wp2_with fail
  go_loopw [3, 4] (fun v vi wr => ∃ i : Nat, i ≤ 64 ∧ vi = .int .i64 (i : Int) ∧ Hid (OwnsI wr w.heap.size v (lz c i) ∧ Old w wr)) (fun v vi _ => 64 - (intOf vi).toNat)
  case atStart => exact ⟨0, Nat.zero_le _, rfl, W0⟩
  case round =>
    clear W0
    obtain ⟨i, hi, rfl, R⟩ := hrel
    by_cases hi64 : i = 64
    · subst hi64
      have R2 := R.out
      rw [lz_all] at R2
      obtain ⟨a, cap, hv, hcap, rd⟩ := R2.1.rd
      rw [listZ_length] at hv hcap
      subst hv
      have O1 := hide R2.2
      have HR := hide rd
      have SL := hide (listZ_length c)
      have SB := sizeC_le c
      clear R R2 rd
      generalize sizeC c = m at *
      go_wp2_with fail
      refine (AW.out _ O1.out).mono ?_
      rintro e w1 ⟨rfl, o1⟩
      have O2 := hide (O1.out.trans o1)
      have HR2 := hide (HR.out.mono o1)
      clear O1 o1 HR
      go_wp2_with fail
      refine (C1.out _ O2.out).mono ?_
      rintro e w2 ⟨a2, cap2, rfl, -, r2, o2⟩
      have O3 := hide (O2.out.trans o2)
      have C3 := hide (Ints_any m m (listZ c) (listZ c) a2 a cap2 cap w2 (by omega) SL.out SL.out r2 (HR2.out.mono o2))
      rw [decide_eq_true rfl] at C3
      clear O2 o2 r2 HR2
      go_wp2_with fail
      refine C3.out.mono ?_
      rintro e w3 ⟨rfl, o3⟩
      have O4 := hide (O3.out.trans o3)
      clear O3 o3 C3
      go_wp2_with fail
      refine (C2.out _).mono ?_
      rintro e w4 ⟨rfl, o4⟩
      go_wp2
      go_ret
      exact ⟨by first | rfl | simp, O4.out.trans o4⟩
    · have hil : i < 64 := by omega
      have q0 : (0 : Int) ≤ i := by omega
      have q1 : (i : Int) < 64 := by omega
      have tk : decide ((i : Int) < 64) = true := by simp; omega
      cases hb : c.testBit i
      · have eB : bits .and .u64 ((c : Int) / 2 ^ i) 1 = 0 := by rw [bit_at hc, hb]; rfl
        have R1 := R.out
        rw [← lz_no hb] at R1
        have R2 := hide R1
        clear R R1 hb
        go_wp2
        go_roundw
        case rel => exact ⟨i + 1, by omega, by go_num, R2⟩
        case measure => simp [intOf]; omega
      · have eB : bits .and .u64 ((c : Int) / 2 ^ i) 1 = 1 := by rw [bit_at hc, hb]; rfl
        have OW := hide (R.out.1.mono (Old.of_alloc wr (.cells #[.int .i64 ((i : Int) + 1)] 3)))
        have O2 := hide (R.out.2.alloc (.cells #[.int .i64 ((i : Int) + 1)] 3))
        have HY : Hid ((wr.alloc (.cells #[.int .i64 ((i : Int) + 1)] 3)).cell? ⟨wr.heap.size, 0, none⟩ = some (.int .i64 ((i : Int) + 1))) := (Row.new wr 3 [.int .i64 ((i : Int) + 1)]).cell rfl
        have HN : Hid ((lz c i).length < 1099511627776) := by
          have := lz_length c i
          show _ < _
          omega
        have HZ := hide O2.out.size
        have TK := hide (lz_yes hb)
        clear hb
        go_wp2_with (refine wp_appendI rfl _ _ rfl w.heap.size _ (lz c i) rfl OW.out wr.heap.size 1 ((i : Int) + 1) rfl HY.out HN.out HZ.out ?_; rintro v2 w5 ow gr)
        have R2 : Hid (OwnsI w5 w.heap.size v2 (lz c (i + 1)) ∧ Old w w5) := ⟨by rw [TK.out]; exact ow, Old.grownO O2.out gr (fun g e => (OW.out.lt e).1)⟩
        clear ow gr OW HY HN HZ O2 TK R
        go_roundw
        case rel => exact ⟨i + 1, by omega, by go_num, R2⟩
        case measure => simp [intOf]; omega
end Go.Proofs.YtgaphbncefphbaaDoor
