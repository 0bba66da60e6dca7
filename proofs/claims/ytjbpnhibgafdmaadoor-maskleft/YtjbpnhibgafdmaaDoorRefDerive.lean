/-
  offertoryref04.Derive: the document's seed of a number.
-/
import Derived.Test.YtjbpnhibgafdmaaDoorDerive
namespace Go.Proofs.YtjbpnhibgafdmaaDoor
open Go.RowKit Cha
set_option linter.unusedVariables false

/-- The seed with its first k bytes laid. -/
def seedPart (n k : Nat) : List Nat := partF 8 (lowB n) k ++ List.replicate 24 0
theorem seedPart_length (n k : Nat) : (seedPart n k).length = 32 := by rw [seedPart, List.length_append, partF_length, List.length_replicate]
theorem seedPart_zero (n : Nat) : seedPart n 0 = List.replicate 32 0 := by rw [seedPart, partF_zero]; rfl
theorem seedPart_all (n : Nat) : seedPart n 8 = seedOf n := by rw [seedPart, partF_all]; rfl
theorem seedPart_step (n k : Nat) (hk : k < 8) : (seedPart n k).set k (lowB n k) = seedPart n (k + 1) := by
  rw [seedPart, List.set_append_left _ _ (by rw [partF_length]; exact hk), partF_step _ _ k hk]; rfl
theorem range_at (l : List Nat) (n : Nat) (h : l.length = n) : (List.range n).map (at_ l) = l := by
  apply List.ext_getElem?
  intro i
  by_cases hi : i < n
  · have : i < l.length := by omega
    simp [hi, at_, this]
  · simp [hi]
    omega
theorem two_32 (w : World) : Row ((w.alloc (.cells (nums .u8 (List.replicate 32 0)).toArray 22)).alloc (.cells (nums .u8 (List.replicate 32 0)).toArray 22)) w.heap.size 22 (nums .u8 (List.replicate 32 0)) ∧
    Row ((w.alloc (.cells (nums .u8 (List.replicate 32 0)).toArray 22)).alloc (.cells (nums .u8 (List.replicate 32 0)).toArray 22)) (w.heap.size + 1) 22 (nums .u8 (List.replicate 32 0)) ∧
    Old w ((w.alloc (.cells (nums .u8 (List.replicate 32 0)).toArray 22)).alloc (.cells (nums .u8 (List.replicate 32 0)).toArray 22)) := by
  have K2 := Row.new (w.alloc (.cells (nums .u8 (List.replicate 32 0)).toArray 22)) 22 (nums .u8 (List.replicate 32 0))
  rw [size_alloc] at K2
  exact ⟨(Row.new _ _ _).mono (Old.of_alloc _ _), K2, (Old.of_alloc _ _).alloc _⟩

set_option maxRecDepth 100000 in
set_option maxHeartbeats 2000000 in
theorem refDerive_any (n : Nat) (hn : n < 18446744073709551616) (t : Nat) (ht : t < 4294967296) (w : World) :
    Calls Tryd.prog 26 #[.int .u64 (n : Nat), .int .u32 (t : Nat)] w fun e w' => e = .returned (.agg (nums .u8 (derive n t)).toArray) ∧ Old w w' := by
  have K0 := hide (two_32 w)
  have C2 : Hid (∀ w, Calls Tryd.prog 40 #[.agg (nums .u8 (seedOf n)).toArray, .int .u32 (t : Nat), .int .i64 32] w fun e w' =>
      ∃ g, w.heap.size ≤ g ∧ e = .returned (.slice (some ⟨g, 0, none⟩) 32 32) ∧ Row w' g 5 (nums .u8 (derive n t)) ∧ Old w w') := refBytesAt (seedOf n) (seedOf_length n) (seedOf_lt n) t ht 32 (by omega) 32 rfl
  have FL := hide (seedOf_length n)
  have SA := hide (seedPart_all n)
  have DL := hide (derive_length n t)
  revert C2 FL DL SA
  generalize seedOf n = sd
  generalize derive n t = de
  intro C2 FL SA DL
  go_enter Tryd.func26, Tryd.ntmps26
  go_wp2_with (first
    | (refine wp_store_whole rfl 22 _ _ rfl (w.heap.size + 1) rfl (nums .u8 (List.replicate 32 0)) rfl K0.out.2.1 (info_k' (by rw [List.length_replicate])) rfl (nums_oneCell _ _) ?_; rintro w1 h1
       have R1 : Row w1 w.heap.size 22 (nums .u8 (List.replicate 32 0)) := by rw [h1]; exact K0.out.1.grown (grown_setRow _ _ _) (by omega)
       have R2 : Row w1 (w.heap.size + 1) 22 (nums .u8 (seedPart n 0)) := by rw [h1, seedPart_zero]; exact K0.out.2.1.whole _
       have O1 : Old w w1 := by rw [h1]; exact K0.out.2.2.grown (grown_setRow _ _ _) (by omega)
       clear h1 K0))
  go_loopw [6] (fun vi wr => ∃ k : Nat, k ≤ 8 ∧ vi = .int .i64 (k : Nat) ∧ Row wr w.heap.size 22 (nums .u8 (List.replicate 32 0)) ∧ Row wr (w.heap.size + 1) 22 (nums .u8 (seedPart n k)) ∧ Old w wr) (fun vi _ => (8 - intOf vi).toNat)
  case atStart => exact ⟨0, by omega, rfl, R1, R2, O1⟩
  case round =>
    clear R1 R2 O1
    obtain ⟨k, hk, rfl, R1, R2, hol⟩ := hrel
    by_cases hk8 : k = 8
    · subst hk8
      rw [SA.out] at R2
      rw [show ((8 : Nat) : Int) = 8 from rfl]
      go_wp2_with (refine wp_load_whole rfl 22 _ rfl (w.heap.size + 1) rfl R2 Tryd.underlying22 rfl (info_k' FL.out) ?_)
      refine (C2.out _).mono ?_
      rintro e w2 ⟨g, hg, rfl, RB, o2⟩
      have R1' := R1.mono o2
      have hol' := hol.trans o2
      clear R1 R2 hol o2 C2
      have Z1 : Hid (Row (w2.alloc (.cells (nums .u8 (List.replicate 32 0)).toArray 22)) w2.heap.size 22 (nums .u8 (List.replicate 32 0))) := Row.new _ _ _
      go_wp2_with (first
        | (refine wp_store_whole rfl 22 _ _ rfl w2.heap.size rfl (nums .u8 (List.replicate 32 0)) rfl Z1.out (info_k' (by rw [List.length_replicate])) rfl (nums_oneCell _ _) ?_; rintro w3 h3
           have o3 : Old w2 w3 := by rw [h3]; exact (Old.of_alloc _ _).grown (grown_setRow _ _ _) (Nat.le_refl _)
           have R1 := R1'.mono o3
           have RD := RB.mono o3
           have R3 : Row w3 w2.heap.size 22 (nums .u8 (partF 32 (at_ de) 0)) := by rw [h3, partF_zero]; exact Z1.out.whole _
           have hol := hol'.trans o3
           have l1 := hide R1'.lt
           have l2 := hide RB.lt
           clear h3 o3 Z1 R1' RB hol'))
      go_loopw [9] (fun vi wr => ∃ k : Nat, k ≤ 32 ∧ vi = .int .i64 (k : Nat) ∧ Row wr w.heap.size 22 (nums .u8 (List.replicate 32 0)) ∧ Row wr g 5 (nums .u8 de) ∧ Row wr w2.heap.size 22 (nums .u8 (partF 32 (at_ de) k)) ∧ Old w wr) (fun vi _ => (32 - intOf vi).toNat)
      case atStart => exact ⟨0, by omega, rfl, R1, RD, R3, hol⟩
      case round =>
        clear R1 RD R3 hol
        obtain ⟨k, hk, rfl, R1, RD, R3, hol⟩ := hrel
        by_cases hk32 : k = 32
        · subst hk32
          rw [partF_all, range_at de 32 DL.out] at R3
          have HL : Hid ((nums .u8 (List.replicate 32 0)).length = (nums .u8 de).length) := by
            show _ = _
            rw [nums_length, nums_length, DL.out]; rfl
          go_wp2_with (first
            | refine wp_load_whole rfl 22 _ rfl w2.heap.size rfl R3 Tryd.underlying22 rfl (info_k' DL.out) ?_
            | (refine wp_store_whole rfl 22 _ _ rfl w.heap.size rfl (nums .u8 de) rfl R1 (info_k' DL.out) HL.out (nums_oneCell _ _) ?_; rintro w9 h9))
          have K9 : Row w9 w.heap.size 22 (nums .u8 de) := by rw [h9]; exact R1.whole _
          have O9 : Old w w9 := by rw [h9]; exact hol.grown (grown_setRow _ _ _) (by omega)
          exact bodyPost_ret (v := .agg (nums .u8 de).toArray) (results_whole rfl rfl K9 Tryd.underlying22 rfl (info_k' DL.out)) rfl ⟨rfl, O9⟩
        · have hkl : k < 32 := by omega
          have hb : decide ((k : Int) < 32) = true := decide_eq_true (by omega)
          have hki : (0 : Int) ≤ k := by omega
          have hki2 : (k : Int) < 32 := by omega
          have h1 := RD.some (i := k) (by rw [DL.out]; exact hkl)
          have h2 := R3.some (i := k) (by rw [partF_length]; exact hkl)
          have h3 := R3.free k
          go_wp2
          go_roundw
          case rel =>
            have m1 := l1.out
            have m2 := l2.out
            refine ⟨k + 1, by omega, by go_num, R1.grown (grown_set _ _ _ _) (by omega), RD.grown (grown_set _ _ _ _) (by omega), ?_, hol.grown (grown_set _ _ _ _) (by omega)⟩
            rw [← partF_step _ _ k hkl, ← nums_set]
            exact R3.set _ _
          case measure => simp [intOf]; omega
    · have hkl : k < 8 := by omega
      have hb : decide ((k : Int) < 8) = true := decide_eq_true (by omega)
      have hki : (0 : Int) ≤ k := by omega
      have hki2 : (k : Int) < 8 := by omega
      have h2 := R2.some (i := k) (by rw [seedPart_length]; omega)
      have h3 := R2.free k
      go_wp2
      go_roundw
      case rel =>
        refine ⟨k + 1, by omega, by go_num, R1.grown (grown_set _ _ _ _) (by omega), ?_, hol.grown (grown_set _ _ _ _) (by omega)⟩
        have e : ((n : Nat) : Int) / 2 ^ (8 * k) % 256 = ((lowB n k : Nat) : Int) := by
          unfold lowB
          rw [Int.natCast_emod, Int.natCast_ediv, Int.natCast_pow]; rfl
        rw [← seedPart_step _ k hkl, ← nums_set, ← e]
        exact R2.set _ _
      case measure => simp [intOf]; omega
end Go.Proofs.YtjbpnhibgafdmaaDoor
