/-
  The fixed fact of layer 4's statements (offertorylaw04.awake) is true where the package's table is as its initialiser lays it.
-/
import Derived.Test.YtcnggbmgmegogaaDoorXors
namespace Go.Proofs.YtcnggbmgmegogaaDoor
open Go.RowKit Cha
set_option linter.unusedVariables false

namespace Aw4
def Z : List Nat := List.replicate 32 0
def N : List Nat := List.replicate 12 0
theorem inZ : In Z 0 N := ⟨rfl, rfl, by decide, by decide, by decide⟩
theorem q1 : qA 286331153 16909060 2609737539 19088743 = 3928658676 := by decide +kernel
theorem q2 : qB 286331153 16909060 2609737539 19088743 = 3407673550 := by decide +kernel
theorem q3 : qC 286331153 16909060 2609737539 19088743 = 1166100270 := by decide +kernel
theorem q4 : qD 286331153 16909060 2609737539 19088743 = 1484899515 := by decide +kernel
theorem b0 : at_ (block Z 0 N) 0 = 118 := by decide +kernel
theorem b1 : at_ (block Z 0 N) 1 = 184 := by decide +kernel
theorem x1 : Cha.xor Z 0 N [1] = [119] := by decide +kernel

theorem c1 (w : World) : Calls Tryd.prog 8 #[.int .u32 286331153, .int .u32 16909060, .int .u32 2609737539, .int .u32 19088743] w fun e w' =>
    e = .returned (.tuple #[.int .u32 3928658676, .int .u32 3407673550, .int .u32 1166100270, .int .u32 1484899515]) ∧ w' = w := by
  have := Quarter_any 286331153 16909060 2609737539 19088743 (by decide) (by decide) (by decide) (by decide) w
  rw [q1, q2, q3, q4] at this
  exact this
/-- A row of zeros, as it is built. -/
def zeros (n : Nat) : Array Value := (nums .u8 (List.replicate n 0)).toArray
theorem c2 (w : World) (ht : QTab w) : Calls Tryd.prog 11 #[.agg (zeros 32), .int .u32 0, .agg (zeros 12)] w fun e w' => ∃ bl : List Nat, e = .returned (.agg (nums .u8 bl).toArray) ∧ Hid (bl.length = 64) ∧ Hid (at_ bl 0 = 118) ∧ Hid (at_ bl 1 = 184) ∧ Old w w' :=
  (Block_any Z N 0 rfl rfl inZ.kb (by decide) inZ.nb w ht).mono fun _ _ ⟨h1, h2⟩ => ⟨_, h1, block_length _ _ _, b0, b1, h2⟩
theorem c3 (a : Option Addr) (cap : Nat) (w : World) (ht : QTab w) (rd : Rd w a (nums .u8 [1])) : Calls Tryd.prog 13 #[.agg (zeros 32), .int .u32 0, .agg (zeros 12), .slice a 1 cap] w fun e w' =>
    ∃ g, e = .returned (.slice (some ⟨g, 0, none⟩) 1 1) ∧ w'.cell? ⟨g, 0, none⟩ = some (.int .u8 119) ∧ Old w w' :=
  (Xor_any Z N [1] 0 1 inZ a cap w ht rfl (by decide) (by decide) rd).mono fun _ _ ⟨g, h1, h2, h3⟩ => by
    refine ⟨g, h1, ?_, h3⟩
    rw [x1] at h2
    obtain ⟨b, off, z, ha, hz, hc⟩ := h2.num (i := 0) (by decide)
    obtain ⟨rfl, rfl⟩ : g = b ∧ 0 = off := by simpa using ha
    have := hz.out
    simp at this
    subst this
    simpa using hc
end Aw4

set_option maxHeartbeats 2000000 in
theorem awake4 (w : World) (ht : QTab w) :
    Calls Tryd.prog 10 #[] w fun e w' => e = .returned (.bool true) ∧ Old w w' := by
  have HT := hide ht
  clear ht
  go_enter Tryd.func10, Tryd.ntmps10
  go_wp2_with fail
  refine (Aw4.c1 _).mono ?_
  rintro e w' ⟨rfl, rfl⟩
  go_wp2_with fail
  refine (Aw4.c2 _ HT.out).mono ?_
  rintro e w1 ⟨bl, rfl, L, e0, e1, o1⟩
  have Z1 : Hid (Row (w1.alloc (.cells (nums .u8 (List.replicate 64 0)).toArray 31)) w1.heap.size 31 (nums .u8 (List.replicate 64 0))) := Row.new _ _ _
  go_wp2_with (first
    | (refine wp_store_whole rfl 31 _ _ rfl w1.heap.size rfl (nums .u8 bl) rfl Z1.out (info_b L.out) (by rw [nums_length, nums_length, L.out]; rfl) (nums_oneCell _ _) ?_; rintro w2 h2
       have K2 : Row w2 w1.heap.size 31 (nums .u8 bl) := by rw [h2]; exact Z1.out.whole _
       have o2 : Old w1 w2 := by rw [h2]; exact (Old.of_alloc _ _).grown (grown_setRow _ _ _) (Nat.le_refl _)
       have O2 := o1.trans o2
       clear h2 o2 o1 Z1))
  have R2 := rd_new (w := w2) rfl (t := 5) (cs := #[.int .u8 1]) (vs := nums .u8 [1]) rfl
  refine (Aw4.c3 _ _ _ (HT.out.mono (O2.alloc _)) R2).mono ?_
  rintro e w3 ⟨g, rfl, hc, o3⟩
  have K3 := (K2.mono (Old.of_alloc _ _)).mono o3
  have O3 := (O2.alloc _).trans o3
  have h0 := K3.some (i := 0) (by rw [L.out]; omega)
  have h1 := K3.some (i := 1) (by rw [L.out]; omega)
  rw [e0.out] at h0
  rw [e1.out] at h1
  clear K2 K3 o3 O2 R2
  go_wp2
  go_ret
  exact ⟨rfl, O3⟩
end Go.Proofs.YtcnggbmgmegogaaDoor
