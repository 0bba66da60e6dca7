/-
  Four bytes as a number (cipher.number, offertoryref04.number); the first state (cipher.start).
-/
import Derived.Test.YtjbpnhibgafdmaaDoorQuart
import Derived.Test.YtjbpnhibgafdmaaDoorWhole
namespace Go.Proofs.YtjbpnhibgafdmaaDoor
open Go.RowKit Cha
set_option linter.unusedVariables false

def le4 (x0 x1 x2 x3 : Nat) : Nat := x0 + x1 * 256 + x2 * 65536 + x3 * 16777216
theorem or_join (i : Nat) {x y : Int} {a b : Nat} (hx : x = a) (hy : y = b) (h : a < 2 ^ i) (hb : b % 2 ^ i = 0) (hi : i ≤ 32) (h2 : b < 4294967296) : bits .or .u32 x y = ((a + b : Nat) : Int) := by
  have h1 : a < 4294967296 := Nat.lt_of_lt_of_le h (Nat.pow_le_pow_right (by omega) hi)
  rw [hx, hy, u32_or_nat a b h1 h2, Nat.or_comm, nat_join i b a hb h, Nat.add_comm]
theorem le4_lt {x0 x1 x2 x3 : Nat} (h0 : x0 < 256) (h1 : x1 < 256) (h2 : x2 < 256) (h3 : x3 < 256) : le4 x0 x1 x2 x3 < 4294967296 := by unfold le4; omega

set_option maxHeartbeats 1000000 in
theorem number_any (g off cap x0 x1 x2 x3 : Nat) (h0 : x0 < 256) (h1 : x1 < 256) (h2 : x2 < 256) (h3 : x3 < 256) (w : World)
    (c0 : w.cell? ⟨g, off, none⟩ = some (.int .u8 (x0 : Nat))) (c1 : w.cell? ⟨g, off + 1, none⟩ = some (.int .u8 (x1 : Nat))) (c2 : w.cell? ⟨g, off + 2, none⟩ = some (.int .u8 (x2 : Nat))) (c3 : w.cell? ⟨g, off + 3, none⟩ = some (.int .u8 (x3 : Nat))) :
    Calls Tryd.prog 63 #[.slice (some ⟨g, off, none⟩) 4 cap] w fun e w' => e = .returned (.int .u32 (le4 x0 x1 x2 x3 : Nat)) ∧ Old w w' := by
  go_enter Tryd.func63, Tryd.ntmps63
  go_wp2_with fail
  go_quiet (fail)
  go_wp2
  go_ret
  refine ⟨?_, (Old.refl _).drewN _⟩
  refine congrArg (fun z => Ending.returned (.int .u32 z)) ?_
  exact or_join 24 (or_join 16 (or_join 8 rfl (b := x1 * 256) (by omega) (by omega) (by omega) (by omega) (by omega)) (b := x2 * 65536) (by omega) (by omega) (by omega) (by omega) (by omega)) (b := x3 * 16777216) (by omega) (by omega) (by omega) (by omega) (by omega)

set_option maxHeartbeats 1000000 in
theorem refNumber_any (g off cap x0 x1 x2 x3 : Nat) (h0 : x0 < 256) (h1 : x1 < 256) (h2 : x2 < 256) (h3 : x3 < 256) (w : World)
    (c0 : w.cell? ⟨g, off, none⟩ = some (.int .u8 (x0 : Nat))) (c1 : w.cell? ⟨g, off + 1, none⟩ = some (.int .u8 (x1 : Nat))) (c2 : w.cell? ⟨g, off + 2, none⟩ = some (.int .u8 (x2 : Nat))) (c3 : w.cell? ⟨g, off + 3, none⟩ = some (.int .u8 (x3 : Nat))) :
    Calls Tryd.prog 41 #[.slice (some ⟨g, off, none⟩) 4 cap] w fun e w' => e = .returned (.int .u32 (le4 x0 x1 x2 x3 : Nat)) ∧ Old w w' := by
  go_enter Tryd.func41, Tryd.ntmps41
  go_wp2_with fail
  go_quiet (fail)
  go_wp2
  go_ret
  refine ⟨?_, (Old.refl _).drewN _⟩
  refine congrArg (fun z => Ending.returned (.int .u32 z)) ?_
  show (x0 : Int) + x1 * 256 + x2 * 65536 + x3 * 16777216 = _
  unfold le4; omega

def fillK (ks : List Nat) (n : Nat) : Nat → List Nat
  | 0 => [1634760805, 857760878, 2036477234, 1797285236, 0, 0, 0, 0, 0, 0, 0, 0, n, 0, 0, 0]
  | k + 1 => (fillK ks n k).set (4 + k) (le ks (4 * k))
def fillN (ks : List Nat) (n : Nat) (ns : List Nat) : Nat → List Nat
  | 0 => fillK ks n 8
  | k + 1 => (fillN ks n ns k).set (13 + k) (le ns (4 * k))
theorem fillK_length (ks : List Nat) (n : Nat) : ∀ k, (fillK ks n k).length = 16
  | 0 => rfl
  | k + 1 => by rw [fillK, List.length_set]; exact fillK_length ks n k
theorem fillN_length (ks : List Nat) (n : Nat) (ns : List Nat) : ∀ k, (fillN ks n ns k).length = 16
  | 0 => fillK_length ks n 8
  | k + 1 => by rw [fillN, List.length_set]; exact fillN_length ks n ns k
theorem fillN_all (ks : List Nat) (n : Nat) (ns : List Nat) : fillN ks n ns 3 = first ks n ns := rfl

theorem size_alloc (w : World) (o : Obj) : (w.alloc o).heap.size = w.heap.size + 1 := by
  show (w.heap.push o).size = _
  simp
theorem Row.byte {w : World} {g : Nat} {t : TypeId} {l : List Nat} (R : Row w g t (nums .u8 l)) {i : Nat} (hi : i < l.length) : w.cell? ⟨g, i, none⟩ = some (.int .u8 (at_ l i : Nat)) := by
  refine R.cell ?_
  simp [nums, at_, hi]
theorem Row.some {w : World} {g : Nat} {t : TypeId} {k : IntKind} {l : List Nat} (R : Row w g t (nums k l)) {i : Nat} (hi : i < l.length) : w.cell? ⟨g, i, none⟩ = Option.some (.int k (at_ l i : Nat)) := by
  refine R.cell ?_
  simp [nums, at_, hi]

set_option maxHeartbeats 1000000 in
theorem start_any (ks ns : List Nat) (n : Nat) (hk : ks.length = 32) (hn : ns.length = 12) (bk : ∀ x ∈ ks, x < 256) (bn : ∀ x ∈ ns, x < 256) (w : World) :
    Calls Tryd.prog 57 #[.agg (nums .u8 ks).toArray, .int .u32 (n : Nat), .agg (nums .u8 ns).toArray] w fun e w' => e = .returned (.agg (nums .u32 (first ks n ns)).toArray) ∧ Old w w' := by
  have HK := hide hk
  have HN := hide hn
  have BK := hide bk
  have BN := hide bn
  clear hk hn bk bn
  go_enter Tryd.func57, Tryd.ntmps57
  go_wp2
  go_loopw [12] (fun vi wr => ∃ k : Nat, k ≤ 8 ∧ vi = .int .i64 (k : Nat) ∧ Row wr w.heap.size 32 (nums .u8 ks) ∧ Row wr (w.heap.size + 1) 77 (nums .u8 ns) ∧ Row wr (w.heap.size + 1 + 1) 90 (nums .u32 (List.replicate 16 0)) ∧ Row wr (w.heap.size + 1 + 1 + 1) 90 (nums .u32 (fillK ks n k)) ∧ Old w wr) (fun vi _ => (8 - intOf vi).toNat)
  case atStart =>
    have O1 := Old.of_alloc w (.cells (nums .u8 ks).toArray 32)
    have e1 := size_alloc w (.cells (nums .u8 ks).toArray 32)
    obtain ⟨w1, hw1⟩ : ∃ w1, w1 = w.alloc (.cells (nums .u8 ks).toArray 32) := ⟨_, rfl⟩
    have K1 : Row w1 w.heap.size 32 (nums .u8 ks) := by rw [hw1]; exact Row.new _ _ _
    rw [← hw1] at O1 e1 ⊢
    obtain ⟨w2, hw2⟩ : ∃ w2, w2 = w1.alloc (.cells (nums .u8 ns).toArray 77) := ⟨_, rfl⟩
    have e2 := size_alloc w1 (.cells (nums .u8 ns).toArray 77)
    have K2 : Row w2 (w.heap.size + 1) 77 (nums .u8 ns) := by rw [hw2, ← e1]; exact Row.new _ _ _
    have O2 := Old.of_alloc w1 (.cells (nums .u8 ns).toArray 77)
    rw [← hw2] at O2 e2 ⊢
    obtain ⟨w3, hw3⟩ : ∃ w3, w3 = w2.alloc (.cells (nums .u32 (List.replicate 16 0)).toArray 90) := ⟨_, rfl⟩
    have e3 := size_alloc w2 (.cells (nums .u32 (List.replicate 16 0)).toArray 90)
    have K3 : Row w3 (w.heap.size + 1 + 1) 90 (nums .u32 (List.replicate 16 0)) := by rw [hw3, ← e1, ← e2]; exact Row.new _ _ _
    have O3 := Old.of_alloc w2 (.cells (nums .u32 (List.replicate 16 0)).toArray 90)
    rw [← hw3] at O3 e3
    have O4 := Old.of_alloc w3 (.cells (nums .u32 (fillK ks n 0)).toArray 90)
    have K4 := Row.new w3 90 (nums .u32 (fillK ks n 0))
    rw [e3, e2, e1] at K4
    have hww : (w2.alloc (.cells #[.int .u32 0, .int .u32 0, .int .u32 0, .int .u32 0, .int .u32 0, .int .u32 0, .int .u32 0, .int .u32 0, .int .u32 0, .int .u32 0, .int .u32 0, .int .u32 0, .int .u32 0, .int .u32 0, .int .u32 0, .int .u32 0] 90)) = w3 := hw3.symm
    rw [hww]
    exact ⟨0, by omega, rfl, ((K1.mono O2).mono O3).mono O4, (K2.mono O3).mono O4, K3.mono O4, K4, ((O1.trans O2).trans O3).trans O4⟩
  case round =>
    obtain ⟨k, hk, rfl, R3, R5, R6, R7, hol⟩ := hrel
    by_cases hk8 : k = 8
    · subst hk8
      rw [show ((8 : Nat) : Int) = 8 from rfl]
      go_wp2
      go_loopw [26] (fun vi wr => ∃ k : Nat, k ≤ 3 ∧ vi = .int .i64 (k : Nat) ∧ Row wr (w.heap.size + 1) 77 (nums .u8 ns) ∧ Row wr (w.heap.size + 1 + 1) 90 (nums .u32 (List.replicate 16 0)) ∧ Row wr (w.heap.size + 1 + 1 + 1) 90 (nums .u32 (fillN ks n ns k)) ∧ Old w wr) (fun vi _ => (3 - intOf vi).toNat)
      case atStart => exact ⟨0, by omega, rfl, R5, R6, R7, hol⟩
      case round =>
        obtain ⟨k, hk, rfl, R5, R6, R7, hol⟩ := hrel
        by_cases hk3 : k = 3
        · subst hk3
          have HI : Hid ((Tryd.prog.info? 90).map (·.size) = some (nums .u32 (first ks n ns)).length) := by
            show _ = _
            rw [nums_length, first_length]; kernel_rfl
          have HL : Hid ((nums .u32 (List.replicate 16 0)).length = (nums .u32 (first ks n ns)).length) := by
            show _ = _
            rw [nums_length, nums_length, first_length]; rfl
          rw [fillN_all] at R7
          go_wp2_with (first
            | refine wp_load_whole rfl 90 _ rfl (w.heap.size + 1 + 1 + 1) rfl R7 Tryd.underlying90 rfl HI.out ?_
            | (refine wp_store_whole rfl 90 _ _ rfl (w.heap.size + 1 + 1) rfl (nums .u32 (first ks n ns)) rfl R6 HI.out HL.out (nums_oneCell _ _) ?_; rintro w9 h9))
          have K9 : Row w9 (w.heap.size + 1 + 1) 90 (nums .u32 (first ks n ns)) := by rw [h9]; exact R6.whole _
          have O9 : Old w w9 := by rw [h9]; exact hol.grown (grown_setRow _ _ _) (by omega)
          exact bodyPost_ret (v := .agg (nums .u32 (first ks n ns)).toArray) (results_whole rfl rfl K9 Tryd.underlying90 rfl HI.out) rfl ⟨rfl, O9⟩
        · have hb : decide ((k : Int) < 3) = true := decide_eq_true (by omega)
          have hkl : k < 3 := by omega
          have hsl := run_part (P := Tryd.prog) Tryd.underlying77 (by kernel_rfl) (w.heap.size + 1) (4 * k) (4 * k + 4) (by omega) (by omega) (by omega) (x := 4 * (k : Int)) (y := 4 * (k : Int) + 4) (by omega) (by omega)
          rw [show 4 * k + 4 - 4 * k = 4 by omega] at hsl
          go_wp2_with fail
          refine (number_any (w.heap.size + 1) (4 * k) _ (at_ ns (4 * k)) (at_ ns (4 * k + 1)) (at_ ns (4 * k + 2)) (at_ ns (4 * k + 3)) (at8_lt BN.out _) (at8_lt BN.out _) (at8_lt BN.out _) (at8_lt BN.out _) _ (R5.byte (by rw [HN.out]; omega)) (R5.byte (by rw [HN.out]; omega)) (R5.byte (by rw [HN.out]; omega)) (R5.byte (by rw [HN.out]; omega))).mono ?_
          rintro e w1 ⟨rfl, o1⟩
          have R5' := R5.mono o1
          have R6' := R6.mono o1
          have R7' := R7.mono o1
          have hol' := hol.trans o1
          clear R5 R6 R7 hol o1 hsl
          have hcc := R7'.some (i := 13 + k) (by rw [fillN_length]; omega)
          have hff := R7'.free (13 + k)
          go_wp2
          go_roundw
          case rel =>
            refine ⟨k + 1, by omega, by go_num, R5'.grown (grown_set _ _ _ _) (by omega), R6'.grown (grown_set _ _ _ _) (by omega), ?_, hol'.grown (grown_set _ _ _ _) (by omega)⟩
            rw [fillN, ← nums_set]
            exact R7'.set _ _
          case measure => simp [intOf]; omega
    · have hb : decide ((k : Int) < 8) = true := decide_eq_true (by omega)
      have hkl : k < 8 := by omega
      have hsl := run_part (P := Tryd.prog) Tryd.underlying32 (by kernel_rfl) w.heap.size (4 * k) (4 * k + 4) (by omega) (by omega) (by omega) (x := 4 * (k : Int)) (y := 4 * (k : Int) + 4) (by omega) (by omega)
      rw [show 4 * k + 4 - 4 * k = 4 by omega] at hsl
      go_wp2_with fail
      refine (number_any w.heap.size (4 * k) _ (at_ ks (4 * k)) (at_ ks (4 * k + 1)) (at_ ks (4 * k + 2)) (at_ ks (4 * k + 3)) (at8_lt BK.out _) (at8_lt BK.out _) (at8_lt BK.out _) (at8_lt BK.out _) _ (R3.byte (by rw [HK.out]; omega)) (R3.byte (by rw [HK.out]; omega)) (R3.byte (by rw [HK.out]; omega)) (R3.byte (by rw [HK.out]; omega))).mono ?_
      rintro e w1 ⟨rfl, o1⟩
      have R3' := R3.mono o1
      have R5' := R5.mono o1
      have R6' := R6.mono o1
      have R7' := R7.mono o1
      have hol' := hol.trans o1
      clear R3 R5 R6 R7 hol o1 hsl
      have hcc := R7'.some (i := 4 + k) (by rw [fillK_length]; omega)
      have hff := R7'.free (4 + k)
      go_wp2
      go_roundw
      case rel =>
        refine ⟨k + 1, by omega, by go_num, R3'.grown (grown_set _ _ _ _) (by omega), R5'.grown (grown_set _ _ _ _) (by omega), R6'.grown (grown_set _ _ _ _) (by omega), ?_, hol'.grown (grown_set _ _ _ _) (by omega)⟩
        rw [fillK, ← nums_set]
        exact R7'.set _ _
      case measure => simp [intOf]; omega
end Go.Proofs.YtjbpnhibgafdmaaDoor
