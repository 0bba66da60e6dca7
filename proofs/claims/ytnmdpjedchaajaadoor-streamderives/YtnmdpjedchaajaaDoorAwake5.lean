/-
  The fixed fact of layer 5's statements (offertorylaw05.awake) is true where the package's table is as its initialiser lays it.
-/
import Derived.Test.YtnmdpjedchaajaaDoorDerive
import Derived.Test.YtnmdpjedchaajaaDoorWholeG
namespace Go.Proofs.YtnmdpjedchaajaaDoor
open Go.RowKit Cha
set_option linter.unusedVariables false

namespace Aw5
def Z : List Nat := List.replicate 32 0
/-- A row of zeros, as it is built. -/
def zeros (n : Nat) : Array Value := (nums .u8 (List.replicate n 0)).toArray
theorem b0 : at_ (sbytes Z 0 2) 0 = 118 := by decide +kernel
theorem v0 : at_ (svec Z 0 1) 0 = 2917185654 := by decide +kernel
theorem d0 : decide (derive 1 2 = Z) = false := by decide +kernel

theorem c1 (w : World) : Calls Tryd.prog 9 #[.int .u32 258] w fun e w' => e = .returned (.agg (nums .u8 (nonceOf 258)).toArray) ∧ Old w w' := Nonce_any 258 (by omega) w
theorem c2 (w : World) (q : QTab w) : Calls Tryd.prog 11 #[.agg (zeros 32), .int .u32 0, .int .i64 2] w fun e w' => ∃ g, e = .returned (.slice (some ⟨g, 0, none⟩) 2 2) ∧ w'.cell? ⟨g, 0, none⟩ = some (.int .u8 118) ∧ Old w w' :=
  (BytesAt Z rfl (zeros_lt 32) 0 (by omega) 2 (by omega) 2 rfl w q).mono fun _ _ ⟨g, _, h1, h2, h3⟩ => by
    have := h2.some (i := 0) (by rw [sbytes_length]; omega)
    rw [b0] at this
    exact ⟨g, h1, this, h3⟩
theorem c3 (w : World) (q : QTab w) : Calls Tryd.prog 13 #[.agg (zeros 32), .int .u32 0, .int .i64 1] w fun e w' => ∃ g, e = .returned (.slice (some ⟨g, 0, none⟩) 1 1) ∧ w'.cell? ⟨g, 0, none⟩ = some (.int .u32 2917185654) ∧ Old w w' :=
  (Vector_any Z rfl (zeros_lt 32) 0 (by omega) 1 w q).mono fun _ _ ⟨g, _, h1, h2, h3⟩ => by
    rw [show kept 1 256 = 1 from rfl] at h1 h2
    have := h2.some (i := 0) (by rw [svec_length]; omega)
    rw [v0] at this
    exact ⟨g, h1, this, h3⟩
theorem c4 (w : World) (q : QTab w) : Calls Tryd.prog 16 #[.int .u64 1, .int .u32 2] w fun e w' => ∃ de : List Nat, e = .returned (.agg (nums .u8 de).toArray) ∧ Hid (de.length = 32) ∧ Hid (∀ w, (Op.equalIn 10000 29 (.agg (nums .u8 de).toArray) (.agg (zeros 32))).run Tryd.prog w = .ok false w) ∧ Old w w' :=
  (Derive_any 1 (by omega) 2 (by omega) w q).mono fun _ _ ⟨h1, h2⟩ => by
    refine ⟨_, h1, derive_length 1 2, ?_, h2⟩
    intro w
    have := eq_bytes (P := Tryd.prog) Tryd.underlying29 Tryd.underlying5 (fun w => by kernel_rfl) (derive 1 2) Z (derive_length 1 2) rfl (derive_lt 1 2) (zeros_lt 32) w
    rw [d0] at this
    exact this
end Aw5

set_option maxHeartbeats 2000000 in
theorem awake5 (w : World) (q : QTab w) :
    Calls Tryd.prog 8 #[] w fun e w' => e = .returned (.bool true) ∧ Old w w' := by
  have HQ := hide q
  clear q
  go_enter Tryd.func8, Tryd.ntmps8
  go_wp2_with fail
  refine (Aw5.c1 _).mono ?_
  rintro e w1 ⟨rfl, o1⟩
  have Z1 : Hid (Row (w1.alloc (.cells (nums .u8 (List.replicate 12 0)).toArray 25)) w1.heap.size 25 (nums .u8 (List.replicate 12 0))) := Row.new _ _ _
  go_wp2_with (first
    | (refine wp_store_whole rfl 25 _ _ rfl w1.heap.size rfl (nums .u8 (nonceOf 258)) rfl Z1.out (info_n rfl) rfl (nums_oneCell _ _) ?_; rintro w2 h2
       have K2 : Row w2 w1.heap.size 25 (nums .u8 (nonceOf 258)) := by rw [h2]; exact Z1.out.whole _
       have o2 : Old w1 w2 := by rw [h2]; exact (Old.of_alloc _ _).grown (grown_setRow _ _ _) (Nat.le_refl _)
       have O2 := o1.trans o2
       clear h2 o2 o1 Z1))
  refine (Aw5.c2 _ (HQ.out.mono O2)).mono ?_
  rintro e w3 ⟨gb, rfl, cb, o3⟩
  have K3 := K2.mono o3
  have O3 := O2.trans o3
  clear K2 O2 o3
  go_wp2_with fail
  refine (Aw5.c3 _ (HQ.out.mono O3)).mono ?_
  rintro e w4 ⟨gv, rfl, cv, o4⟩
  have K4 := K3.mono o4
  have O4 := O3.trans o4
  have cb4 := o4.cell cb
  clear K3 O3 o4 cb
  go_wp2_with fail
  refine (Aw5.c4 _ (HQ.out.mono O4)).mono ?_
  rintro e w5 ⟨de, rfl, DL, DE, o5⟩
  have K5 := K4.mono o5
  have O5 := O4.trans o5
  have cb5 := o5.cell cb4
  have cv5 := o5.cell cv
  clear K4 O4 o5 cb4 cv
  have Z5 : Hid (Row (w5.alloc (.cells (nums .u8 (List.replicate 32 0)).toArray 29)) w5.heap.size 29 (nums .u8 (List.replicate 32 0))) := Row.new _ _ _
  go_wp2_with (first
    | (refine wp_store_whole rfl 29 _ _ rfl w5.heap.size rfl (nums .u8 de) rfl Z5.out (info_k DL.out) (by rw [nums_length, nums_length, DL.out]; rfl) (nums_oneCell _ _) ?_; rintro w6 h6
       have D6 : Row w6 w5.heap.size 29 (nums .u8 de) := by rw [h6]; exact Z5.out.whole _
       have o6 : Old w5 w6 := by rw [h6]; exact (Old.of_alloc _ _).grown (grown_setRow _ _ _) (Nat.le_refl _)
       have K6 := K5.mono o6
       have O6 := O5.trans o6
       have cb6 := o6.cell cb5
       have cv6 := o6.cell cv5
       have n0 : w6.cell? ⟨w1.heap.size, 0, none⟩ = some (.int .u8 2) := K6.some (i := 0) (by decide)
       have n1 : w6.cell? ⟨w1.heap.size, 1, none⟩ = some (.int .u8 1) := K6.some (i := 1) (by decide)
       have n2 : w6.cell? ⟨w1.heap.size, 2, none⟩ = some (.int .u8 0) := K6.some (i := 2) (by decide)
       clear h6 o6 K5 K6 O5 cb5 cv5 Z5)
    | refine wp_load_whole_g rfl 29 _ rfl w5.heap.size rfl D6.range Tryd.underlying29 rfl (info_k DL.out) ?_
    | refine wp_ne_whole_g rfl 29 _ _ _ rfl (nums .u8 de).toArray (Aw5.zeros 32) rfl rfl (by kernel_rfl) false (DE.out _) ?_)
  go_ret
  exact ⟨rfl, O6⟩
end Go.Proofs.YtnmdpjedchaajaaDoor
