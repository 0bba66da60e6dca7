/-
  Package stream: within, lowestFirst, number, Nonce.
-/
import Derived.Test.YtjbpnhibgafdmaaDoorSeeds
import Derived.Test.YtjbpnhibgafdmaaDoorSsbOps
namespace Go.Proofs.YtjbpnhibgafdmaaDoor
open Go.RowKit Cha
set_option linter.unusedVariables false

theorem within_any (n : Int) (m : Nat) (w : World) :
    Calls Tryd.prog 36 #[.int .i64 n, .int .i64 (m : Nat)] w fun e w' => e = .returned (.int .i64 (kept n m : Nat)) ∧ w' = w := by
  go_enter Tryd.func36, Tryd.ntmps36
  go_wp2
  all_goals
    go_ret
    refine ⟨congrArg (fun z => Ending.returned (.int .i64 z)) ?_, rfl⟩
    unfold kept
    split at * <;> omega

set_option maxHeartbeats 1000000 in
theorem lowestFirst_any (n : Nat) (hn : n < 18446744073709551616) (w : World) :
    Calls Tryd.prog 39 #[.int .u64 (n : Nat)] w fun e w' => e = .returned (.agg (nums .u8 (lo8 n)).toArray) ∧ Old w w' := by
  go_enter Tryd.func39, Tryd.ntmps39
  go_wp2
  go_loopw [5] (fun vi wr => ∃ k : Nat, k ≤ 8 ∧ vi = .int .i64 (k : Nat) ∧ Row wr w.heap.size 70 (nums .u8 (List.replicate 8 0)) ∧ Row wr (w.heap.size + 1) 70 (nums .u8 (partF 8 (lowB n) k)) ∧ Old w wr) (fun vi _ => (8 - intOf vi).toNat)
  case atStart =>
    have e1 := size_alloc w (.cells (nums .u8 (List.replicate 8 0)).toArray 70)
    have K1 := Row.new w 70 (nums .u8 (List.replicate 8 0))
    have O1 := Old.of_alloc w (.cells (nums .u8 (List.replicate 8 0)).toArray 70)
    have K2 := Row.new (w.alloc (.cells (nums .u8 (List.replicate 8 0)).toArray 70)) 70 (nums .u8 (List.replicate 8 0))
    have O2 := Old.of_alloc (w.alloc (.cells (nums .u8 (List.replicate 8 0)).toArray 70)) (.cells (nums .u8 (List.replicate 8 0)).toArray 70)
    rw [e1] at K2
    refine ⟨0, by omega, rfl, K1.mono O2, ?_, O1.trans O2⟩
    rw [partF_zero]
    exact K2
  case round =>
    obtain ⟨k, hk, rfl, R2, R3, hol⟩ := hrel
    by_cases hk8 : k = 8
    · subst hk8
      rw [partF_all, show (List.range 8).map (lowB n) = lo8 n from rfl] at R3
      have HI : Hid ((Tryd.prog.info? 70).map (·.size) = some (nums .u8 (lo8 n)).length) := by
        show _ = _
        rw [nums_length, lo8_length]; kernel_rfl
      have HL : Hid ((nums .u8 (List.replicate 8 0)).length = (nums .u8 (lo8 n)).length) := by
        show _ = _
        rw [nums_length, nums_length, lo8_length]; rfl
      go_wp2_with (first
        | refine wp_load_whole rfl 70 _ rfl (w.heap.size + 1) rfl R3 Tryd.underlying70 rfl HI.out ?_
        | (refine wp_store_whole rfl 70 _ _ rfl w.heap.size rfl (nums .u8 (lo8 n)) rfl R2 HI.out HL.out (nums_oneCell _ _) ?_; rintro w9 h9))
      have K9 : Row w9 w.heap.size 70 (nums .u8 (lo8 n)) := by rw [h9]; exact R2.whole _
      have O9 : Old w w9 := by rw [h9]; exact hol.grown (grown_setRow _ _ _) (by omega)
      exact bodyPost_ret (v := .agg (nums .u8 (lo8 n)).toArray) (results_whole rfl rfl K9 Tryd.underlying70 rfl HI.out) rfl ⟨rfl, O9⟩
    · have hkl : k < 8 := by omega
      have hb : decide ((k : Int) < 8) = true := decide_eq_true (by omega)
      have hki : (0 : Int) ≤ k := by omega
      have hki2 : (k : Int) < 8 := by omega
      have h2 := R3.some (i := k) (by rw [partF_length]; exact hkl)
      have h3 := R3.free k
      go_wp2
      go_roundw
      case rel =>
        refine ⟨k + 1, by omega, by go_num, R2.grown (grown_set _ _ _ _) (by omega), ?_, hol.grown (grown_set _ _ _ _) (by omega)⟩
        have e : ((n : Nat) : Int) / 2 ^ (8 * k) % 256 = ((lowB n k : Nat) : Int) := by
          unfold lowB
          rw [Int.natCast_emod, Int.natCast_ediv, Int.natCast_pow]; rfl
        rw [← partF_step _ _ k hkl, ← nums_set, ← e]
        exact R3.set _ _
      case measure => simp [intOf]; omega

set_option maxHeartbeats 1000000 in
theorem streamNumber_any (g off cap x0 x1 x2 x3 : Nat) (h0 : x0 < 256) (h1 : x1 < 256) (h2 : x2 < 256) (h3 : x3 < 256) (w : World)
    (c0 : w.cell? ⟨g, off, none⟩ = some (.int .u8 (x0 : Nat))) (c1 : w.cell? ⟨g, off + 1, none⟩ = some (.int .u8 (x1 : Nat))) (c2 : w.cell? ⟨g, off + 2, none⟩ = some (.int .u8 (x2 : Nat))) (c3 : w.cell? ⟨g, off + 3, none⟩ = some (.int .u8 (x3 : Nat))) :
    Calls Tryd.prog 38 #[.slice (some ⟨g, off, none⟩) 4 cap] w fun e w' => e = .returned (.int .u32 (le4 x0 x1 x2 x3 : Nat)) ∧ Old w w' := by
  go_enter Tryd.func38, Tryd.ntmps38
  go_wp2_with fail
  go_quiet (fail)
  go_wp2
  go_ret
  refine ⟨?_, (Old.refl _).drewN _⟩
  refine congrArg (fun z => Ending.returned (.int .u32 z)) ?_
  exact or_join 24 (or_join 16 (or_join 8 rfl (b := x1 * 256) (by omega) (by omega) (by omega) (by omega) (by omega)) (b := x2 * 65536) (by omega) (by omega) (by omega) (by omega) (by omega)) (b := x3 * 16777216) (by omega) (by omega) (by omega) (by omega) (by omega)
end Go.Proofs.YtjbpnhibgafdmaaDoor
