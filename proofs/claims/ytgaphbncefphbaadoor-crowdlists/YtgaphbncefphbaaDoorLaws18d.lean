/-
  Layer 18's statement CrowdWithin, if the layer's calls are what they owe.
-/
import Derived.Test.YtgaphbncefphbaaDoorLaws18b
namespace Go.Proofs.YtgaphbncefphbaaDoor
open Go.RowKit Pn Cr
set_option linter.unusedVariables false

namespace Cr
theorem listZ_at {c i : Nat} (h : i < sizeC c) : ∃ d : Nat, (listC c)[i]? = some d ∧ (listZ c).getD i 0 = (d : Int) := by
  unfold sizeC at h
  exact ⟨(listC c)[i], List.getElem?_eq_getElem h, by simp [listZ, List.getD, h]⟩
/-- Are the first i of a's donors in b? -/
def allIn (a b i : Nat) : Bool := ((listC a).take i).all fun d => hasC b (d : Int)
theorem allIn_none (a b : Nat) : allIn a b 0 = true := rfl
theorem allIn_step {a b i d : Nat} (h : (listC a)[i]? = some d) : allIn a b (i + 1) = (allIn a b i && hasC b (d : Int)) := by
  unfold allIn
  rw [List.take_add_one, h, List.all_append]
  simp
theorem allIn_all (a b : Nat) : allIn a b (sizeC a) = withinC a b := by
  unfold allIn withinC sizeC
  rw [List.take_length]
theorem size_all {k : Nat} (h : k ≤ 64) : sizeC (allC k) = k := by
  unfold sizeC
  rw [listC_all k h]
  simp
theorem all_at {k i : Nat} (h : k ≤ 64) (hi : i < k) : (listZ (allC k)).getD i 0 = (i : Int) + 1 := by
  unfold listZ
  rw [listC_all k h]
  simp [List.getD, hi]
end Cr

set_option maxRecDepth 100000 in
set_option maxHeartbeats 4000000 in
theorem walkK_CrowdWithin (K : CrowdK) (v0 v1 v2 : Value) (w : World) (w0 : IsInt .u64 v0) (w1 : IsInt .u64 v1) (w2 : IsInt .i64 v2) (T : Tab w) :
    Calls Tryd.prog 5 #[v0, v1, v2] w fun e w' => e = .returned (.bool true) ∧ Old w w' := by
  obtain ⟨a, ha, rfl⟩ := mk64c w0
  obtain ⟨b, hb, rfl⟩ := mk64c w1
  obtain ⟨n, rfl, -, -⟩ := mkIc w2
  have AW := hide (fun (w' : World) (o : Old w w') => awake18 K w' (T.mono o))
  have C1 := hide (K.listK a ha w T)
  have C2 := hide (K.hasK b hb)
  have C3 := hide (K.withinK a b ha hb)
  have C4 := hide (K.allK n)
  have C5 := hide (fun (k : Nat) (hk : k ≤ 64) (w' : World) (o : Old w w') => K.listK (allC k) (allC_lt k hk) w' (T.mono o))
  have SL := hide (listZ_length a)
  have AT := hide (fun i (h : i < sizeC a) => listZ_at h)
  have AA := hide (allIn_all a b)
  have hm := sizeC_le a
  clear K T w0 w1 w2
  generalize sizeC a = m at *
  generalize withinC a b = wi at *
  have Q0 : Hid (true = allIn a b 0) := rfl
  go_enter Tryd.func5, Tryd.ntmps5
  go_wp2_with fail
  refine C1.out.mono ?_
  rintro e w1 ⟨p, cap, rfl, hcap, rd, o1⟩
  have O1 := hide o1
  have HR := hide rd
  clear rd o1 C1
  go_wp2_with fail
  go_loopw [7, 9] (fun vq vi wr => ∃ i : Nat, ∃ q : Bool, i ≤ m ∧ vq = .bool q ∧ vi = .int .i64 (i : Nat) ∧ Hid (q = allIn a b i) ∧ Hid (Old w1 wr)) (fun _ vi _ => (m - intOf vi).toNat)
  case atStart => exact ⟨0, true, by omega, rfl, rfl, Q0, Old.refl _⟩
  case round =>
    clear Q0
    obtain ⟨i, q, hi, rfl, rfl, QE, OW⟩ := hrel
    by_cases him : i = m
    · subst him
      have QW : Hid (wi = q) := by
        show _ = _
        rw [QE.out, AA.out]
      have O2 := hide (O1.out.trans OW.out)
      clear QE AA SL AT HR OW O1
      have qw := QW.out
      subst qw
      clear QW
      by_cases hn : n < 0
      · have d1 : decide (n < 0) = true := decide_eq_true hn
        obtain ⟨k, hk, hk0⟩ : ∃ k, k = min n.toNat 64 ∧ k = 0 := ⟨_, rfl, by omega⟩
        rw [← hk] at C4
        have C6 := hide (C5.out k (by omega))
        rw [size_all (show k ≤ 64 by omega)] at C6
        subst hk0
        clear hn hk
        go_wp2_with fail
        refine (C4.out _).mono ?_
        rintro e w2 ⟨rfl, o2⟩
        have O3 := hide (O2.out.trans o2)
        clear o2 C4
        go_wp2_with fail
        refine (C6.out _ O3.out).mono ?_
        rintro e w3 ⟨p2, cap2, rfl, -, r3, o3⟩
        have O4 := hide (O3.out.trans o3)
        have R3 := hide r3
        clear r3 o3 C6
        go_wp2_with fail
        go_loopw [12] (fun vi wr => ∃ j : Nat, j ≤ 0 ∧ vi = .int .i64 (j : Nat) ∧ Hid (Old w3 wr)) (fun vi _ => (0 - intOf vi).toNat)
        case atStart => exact ⟨0, by omega, rfl, Old.refl _⟩
        case round =>
          obtain ⟨j, hj, rfl, O5⟩ := hrel
          have fin := hide (AW.out)
          by_cases hjk : j = 0
          · subst hjk
            go_wp2_with fail
            refine (AW.out _ (O4.out.trans O5.out)).mono ?_
            rintro e w4 ⟨rfl, o4⟩
            go_wp2_with fail
            refine (C3.out _).mono ?_
            rintro e w5 ⟨rfl, o5⟩
            have hz : (wi == wi) = true := by simp
            go_wp2
            go_ret
            exact ⟨by first | rfl | simp, (O4.out.trans O5.out).trans (o4.trans o5)⟩
          · omega
      · have d1 : decide (n < 0) = false := decide_eq_false hn
        obtain ⟨k, hk⟩ : ∃ k, k = min n.toNat 64 := ⟨_, rfl⟩
        rw [← hk] at C4
        have hk64 : k ≤ 64 := by omega
        have C6 := hide (C5.out k hk64)
        rw [size_all hk64] at C6
        have AL := hide (fun i (h : i < k) => all_at hk64 h)
        have LL := hide ((listZ_length (allC k)).trans (size_all hk64))
        by_cases hn2 : 64 < n
        · have d2 : decide (64 < n) = true := decide_eq_true hn2
          have hk0 : k = 64 := by omega
          subst hk0
          clear hn hn2 hk hk64
          go_wp2_with fail
          refine (C4.out _).mono ?_
          rintro e w2 ⟨rfl, o2⟩
          have O3 := hide (O2.out.trans o2)
          clear o2 C4
          go_wp2_with fail
          refine (C6.out _ O3.out).mono ?_
          rintro e w3 ⟨p2, cap2, rfl, -, r3, o3⟩
          have O4 := hide (O3.out.trans o3)
          have R3 := hide r3
          clear r3 o3 C6
          go_wp2_with fail
          go_loopw [12] (fun vi wr => ∃ j : Nat, j ≤ 64 ∧ vi = .int .i64 (j : Nat) ∧ Hid (Old w3 wr)) (fun vi _ => (64 - intOf vi).toNat)
          case atStart => exact ⟨0, by omega, rfl, Old.refl _⟩
          case round =>
            obtain ⟨j, hj, rfl, O5⟩ := hrel
            have fin := hide (AW.out)
            by_cases hjk : j = 64
            · subst hjk
              go_wp2_with fail
              refine (AW.out _ (O4.out.trans O5.out)).mono ?_
              rintro e w4 ⟨rfl, o4⟩
              go_wp2_with fail
              refine (C3.out _).mono ?_
              rintro e w5 ⟨rfl, o5⟩
              have hz : (wi == wi) = true := by simp
              go_wp2
              go_ret
              exact ⟨by first | rfl | simp, (O4.out.trans O5.out).trans (o4.trans o5)⟩
            · have hjl : j < 64 := by omega
              have h0 : (0 : Int) ≤ j := by omega
              have h1 : (j : Int) < 64 := by omega
              obtain ⟨b3, off3, rfl, hc⟩ := rd_int (R3.out.mono O5.out) (show j < (listZ (allC 64)).length by rw [LL.out]; exact hjl)
              rw [AL.out j hjl] at hc
              go_wp2
              go_roundw
              case rel => exact ⟨j + 1, by omega, by go_num, O5⟩
              case measure => simp [intOf]; omega
        · have d2 : decide (64 < n) = false := decide_eq_false hn2
          have hk0 : n = (k : Int) := by omega
          subst hk0
          clear hn hn2 hk
          go_wp2_with fail
          refine (C4.out _).mono ?_
          rintro e w2 ⟨rfl, o2⟩
          have O3 := hide (O2.out.trans o2)
          clear o2 C4
          go_wp2_with fail
          refine (C6.out _ O3.out).mono ?_
          rintro e w3 ⟨p2, cap2, rfl, -, r3, o3⟩
          have O4 := hide (O3.out.trans o3)
          have R3 := hide r3
          clear r3 o3 C6
          go_wp2_with fail
          go_loopw [12] (fun vi wr => ∃ j : Nat, j ≤ k ∧ vi = .int .i64 (j : Nat) ∧ Hid (Old w3 wr)) (fun vi _ => (k - intOf vi).toNat)
          case atStart => exact ⟨0, by omega, rfl, Old.refl _⟩
          case round =>
            obtain ⟨j, hj, rfl, O5⟩ := hrel
            have fin := hide (AW.out)
            by_cases hjk : j = k
            · subst hjk
              go_wp2_with fail
              refine (AW.out _ (O4.out.trans O5.out)).mono ?_
              rintro e w4 ⟨rfl, o4⟩
              go_wp2_with fail
              refine (C3.out _).mono ?_
              rintro e w5 ⟨rfl, o5⟩
              have hz : (wi == wi) = true := by simp
              go_wp2
              go_ret
              exact ⟨by first | rfl | simp, (O4.out.trans O5.out).trans (o4.trans o5)⟩
            · have hjl : j < k := by omega
              have h0 : (0 : Int) ≤ j := by omega
              have h1 : (j : Int) < k := by omega
              obtain ⟨b3, off3, rfl, hc⟩ := rd_int (R3.out.mono O5.out) (show j < (listZ (allC k)).length by rw [LL.out]; exact hjl)
              rw [AL.out j hjl] at hc
              go_wp2
              go_roundw
              case rel => exact ⟨j + 1, by omega, by go_num, O5⟩
              case measure => simp [intOf]; omega
    · have hil : i < m := by omega
      have hki : (0 : Int) ≤ i := by omega
      have hki2 : (i : Int) < m := by omega
      obtain ⟨d, hd, hz⟩ := AT.out i hil
      have ST := hide (allIn_step (b := b) hd)
      have lk : i < (listZ a).length := by rw [SL.out]; exact hil
      obtain ⟨bb, off, rfl, hc⟩ := rd_int (HR.out.mono OW.out) lk
      rw [hz] at hc
      have C7 := hide (C2.out (d : Int))
      clear hd hz lk
      cases q with
      | true =>
        have QE2 : Hid (hasC b (d : Int) = allIn a b (i + 1)) := by
          show _ = _
          rw [ST.out, ← QE.out, Bool.true_and]
        clear ST QE
        revert C7 QE2
        generalize hasC b (d : Int) = y
        intro C7 QE2
        go_wp2_with fail
        refine (C7.out _).mono ?_
        rintro e w2 ⟨rfl, o2⟩
        have OW2 := hide (OW.out.trans o2)
        clear o2
        go_wp2
        go_roundw
        case rel => exact ⟨i + 1, y, by omega, rfl, by go_num, QE2, OW2⟩
        case measure => simp [intOf]; omega
      | false =>
        have QE2 : Hid (false = allIn a b (i + 1)) := by
          show _ = _
          rw [ST.out, ← QE.out, Bool.false_and]
        clear ST QE C7
        go_wp2
        go_roundw
        case rel => exact ⟨i + 1, false, by omega, rfl, by go_num, QE2, OW⟩
        case measure => simp [intOf]; omega
end Go.Proofs.YtgaphbncefphbaaDoor
