/-
  The fixed fact of layer 17's statements (offertorylaw17.awake) is true, if the layer's calls are what they owe, where the package's table is as its initialiser lays it.
-/
import Derived.Test.YtjbpnhibgafdmaaDoorMaskC
namespace Go.Proofs.YtjbpnhibgafdmaaDoor
open Go.RowKit Cha M Vec Sl Mk
set_option linter.unusedVariables false

namespace Aw17
def Z : List Nat := List.replicate 32 0
def zeros (n : Nat) : Array Value := (nums .u8 (List.replicate n 0)).toArray
def L (A B : Nat) : List Crd := [⟨1, 0, A⟩, ⟨2, 0, B⟩]
def cs (A B : Nat) : List Value := [.int .i64 1, .int .u64 0, .int .u64 (A : Nat), .int .i64 2, .int .u64 0, .int .u64 (B : Nat)]
theorem L_in {w : World} {g : Nat} {t : TypeId} {A B : Nat} (R : Row w g t (cs A B)) : CrdIn w (some ⟨g, 0, none⟩) (L A B) := by
  intro i x hx
  refine ⟨g, 0, rfl, ?_⟩
  match i, hx with
  | 0, hx =>
    obtain rfl : (⟨1, 0, A⟩ : Crd) = x := by simpa [L] using hx
    exact ⟨R.cell (i := 0) rfl, R.cell (i := 1) rfl, R.cell (i := 2) rfl⟩
  | 1, hx =>
    obtain rfl : (⟨2, 0, B⟩ : Crd) = x := by simpa [L] using hx
    exact ⟨R.cell (i := 3) rfl, R.cell (i := 4) rfl, R.cell (i := 5) rfl⟩
  | i + 2, hx => simp [L] at hx
theorem good5 : goodP (powP 37 5) = true := by decide +kernel
theorem good7 : goodP (powP 37 7) = true := by decide +kernel
theorem ag5 {B : Nat} (h : goodP B = true) : agE 5 B = 0 := by unfold agE; rw [if_neg (by omega), if_pos h]
theorem ag7 {A : Nat} (h : goodP A = true) : agE 7 A = 0 := by unfold agE; rw [if_neg (by omega), if_pos h]
theorem rise {A B : Nat} : riseB (L A B) = true := rfl
theorem rise1 {A B : Nat} : riseB ((L A B).take 1) = true := rfl
theorem okL {A B : Nat} (hA : A < 18446744073709551616) (hB : B < 18446744073709551616) : CrdOk (L A B) := by
  intro x hx
  simp [L] at hx
  rcases hx with rfl | rfl <;> (refine ⟨?_, ?_, ?_, ?_⟩ <;> dsimp only <;> omega)
theorem e1 {A B : Nat} (hB : goodP B = true) : masksE 1 5 (1 : Nat) (L A B) = 0 := by
  unfold masksE
  rw [if_pos (by unfold argB; rw [rise]; decide)]
  simp [L, mskE, ag5 hB]
theorem e2 {A B : Nat} (hA : goodP A = true) : masksE 2 7 (1 : Nat) (L A B) = 0 := by
  unfold masksE
  rw [if_pos (by unfold argB; rw [rise]; decide)]
  simp [L, mskE, ag7 hA]
theorem e3 {A B : Nat} (hA : goodP A = true) : masksE 2 7 1 ((L A B).take 1) = 0 := by
  unfold masksE
  rw [if_pos (by unfold argB; rw [rise1]; decide)]
  simp [L, mskE, ag7 hA]
theorem one_of {l : List Nat} (h : l.length = 1) (hb : ∀ x ∈ l, x < 4294967296) : ∃ z, l = [z] ∧ z < 4294967296 := by
  match l, h with
  | [z], _ => exact ⟨z, rfl, hb z (by simp)⟩
theorem sum_eq (z y : Nat) (ly : y < 4294967296) : add32 (add32 (add32 1 z) (add32 0 y)) (add32 (add32 2 z) (sub32 0 y)) = add32 3 (2 * z % 4294967296) := by
  unfold add32 sub32
  simp only [Nat.add_mod_mod, Nat.mod_add_mod]
  rw [show 1 + z + (0 + y) + (2 + z + (0 + 4294967296 - y)) = 3 + 2 * z + 4294967296 by omega, Nat.add_mod_right]
theorem zero_add (y : Nat) (ly : y < 4294967296) : add32 0 y = y := by
  unfold add32
  rw [Nat.zero_add, Nat.mod_eq_of_lt ly]
theorem m1 {A B q : Nat} (hq : powP B 5 = q) {z : Nat} (hz : pairV q 1 = [z]) : mskL 1 5 1 false (L A B) = [add32 0 z] := by
  simp [mskL, mskS, L, hq, hz, sgn]
theorem m2 {A B q : Nat} (hq : powP A 7 = q) {z : Nat} (hz : pairV q 1 = [z]) : mskL 2 7 1 false (L A B) = [sub32 0 z] := by
  simp [mskL, mskS, L, hq, hz, sgn]
theorem m3 {A B q : Nat} (hq : powP A 7 = q) {z : Nat} (hz : pairV q 1 = [z]) : mskL 2 7 1 true ((L A B).take 1) = [add32 0 z] := by
  simp [mskL, mskS, L, hq, hz, sgn]
end Aw17

set_option maxRecDepth 100000 in
set_option maxHeartbeats 8000000 in
theorem awake17 (K : MaskK) (w : World) (q : QTab w) :
    Calls Tryd.prog 13 #[] w fun e w' => e = .returned (.bool true) ∧ Old w w' := by
  have HQ := hide q
  clear q
  have P1 : Hid (∀ w, Calls Tryd.prog 19 #[.int .u64 37, .int .u64 5] w fun e w' => e = .returned (.int .u64 (powP 37 5 : Nat)) ∧ w' = w) := fun w => R1.Pow_any 37 5 (by omega) (by omega) w
  have P2 : Hid (∀ w, Calls Tryd.prog 19 #[.int .u64 37, .int .u64 7] w fun e w' => e = .returned (.int .u64 (powP 37 7 : Nat)) ∧ w' = w) := fun w => R1.Pow_any 37 7 (by omega) (by omega) w
  have GA := Aw17.good5
  have GB := Aw17.good7
  have LA := Nat.lt_trans (powP_lt 37 5) (show 2305843009213693951 < 18446744073709551616 by decide)
  have LB := Nat.lt_trans (powP_lt 37 7) (show 2305843009213693951 < 18446744073709551616 by decide)
  have BO : powP (powP 37 7) 5 = powP (powP 37 5) 7 := by rw [← powP_mul, ← powP_mul]
  generalize powP 37 5 = A at *
  generalize powP 37 7 = B at *
  obtain ⟨y, hy, ly⟩ := Aw17.one_of (pairV_length (powP B 5) 1) (pairV_lt _ _)
  obtain ⟨z, hz, lz⟩ := Aw17.one_of (ownV_length Aw17.Z 1) (ownV_lt _ _)
  have KO := hide (Aw17.okL LA LB)
  have D1 : Hid (∀ (g1 gc : Nat) (w : World), Rd w (some ⟨g1, 0, none⟩) (nums .u32 [1]) → CrdIn w (some ⟨gc, 0, none⟩) (Aw17.L A B) → QTab w → Calls Tryd.prog 16 #[.slice (some ⟨g1, 0, none⟩) 1 1, .int .i64 1, .agg (Aw17.zeros 32), .int .u64 5, .slice (some ⟨gc, 0, none⟩) 2 2] w fun e w' =>
      ∃ g, e = .returned (.tuple #[.slice (some ⟨g, 0, none⟩) 1 1, .int .i64 0]) ∧ w'.cell? ⟨g, 0, none⟩ = some (.int .u32 (add32 (add32 1 z) (add32 0 y) : Nat)) ∧ Old w w') := fun g1 gc w rd rc qt =>
    (MR.yes (K.hideK [1] _ 1 1 rfl (by omega) (by simp) 1 Aw17.Z rfl (zeros_lt 32) 5 (by omega) (Aw17.L A B) _ 2 2 rfl (by omega) KO.out w rd rc qt) (Aw17.e1 GB)).mono fun _ _ ⟨g, _, h1, h2, h3⟩ => by
      rw [Aw17.m1 rfl hy, hz] at h2
      exact ⟨g, h1, h2.cell (i := 0) rfl, h3⟩
  have D2 : Hid (∀ (g1 gc : Nat) (w : World), Rd w (some ⟨g1, 0, none⟩) (nums .u32 [2]) → CrdIn w (some ⟨gc, 0, none⟩) (Aw17.L A B) → QTab w → Calls Tryd.prog 16 #[.slice (some ⟨g1, 0, none⟩) 1 1, .int .i64 2, .agg (Aw17.zeros 32), .int .u64 7, .slice (some ⟨gc, 0, none⟩) 2 2] w fun e w' =>
      ∃ g, e = .returned (.tuple #[.slice (some ⟨g, 0, none⟩) 1 1, .int .i64 0]) ∧ w'.cell? ⟨g, 0, none⟩ = some (.int .u32 (add32 (add32 2 z) (sub32 0 y) : Nat)) ∧ Old w w') := fun g1 gc w rd rc qt =>
    (MR.yes (K.hideK [2] _ 1 1 rfl (by omega) (by simp) 2 Aw17.Z rfl (zeros_lt 32) 7 (by omega) (Aw17.L A B) _ 2 2 rfl (by omega) KO.out w rd rc qt) (Aw17.e2 GA)).mono fun _ _ ⟨g, _, h1, h2, h3⟩ => by
      rw [Aw17.m2 BO.symm hy, hz] at h2
      exact ⟨g, h1, h2.cell (i := 0) rfl, h3⟩
  have D3 : Hid (∀ (w : World), QTab w → Calls Tryd.prog 11 #[.agg (Aw17.zeros 32), .int .i64 1] w fun e w' => ∃ g, e = .returned (.slice (some ⟨g, 0, none⟩) 1 1) ∧ w'.cell? ⟨g, 0, none⟩ = some (.int .u32 (z : Nat)) ∧ Old w w') := fun w qt =>
    (K.ownK Aw17.Z rfl (zeros_lt 32) 1 w qt).mono fun _ _ ⟨g, _, h1, h2, h3⟩ => by
      rw [show kept 1 256 = 1 from rfl] at h1 h2
      rw [hz] at h2
      exact ⟨g, h1, h2.cell (i := 0) rfl, h3⟩
  have D4 : Hid (∀ (gc : Nat) (w : World), CrdIn w (some ⟨gc, 0, none⟩) (Aw17.L A B) → QTab w → Calls Tryd.prog 18 #[.int .i64 2, .int .u64 7, .slice (some ⟨gc, 0, none⟩) 1 2, .int .i64 1] w fun e w' =>
      ∃ g, e = .returned (.tuple #[.slice (some ⟨g, 0, none⟩) 1 1, .int .i64 0]) ∧ w'.cell? ⟨g, 0, none⟩ = some (.int .u32 (add32 0 y : Nat)) ∧ Old w w') := fun gc w rc qt =>
    (MR.yes (K.leftK 2 7 (by omega) ((Aw17.L A B).take 1) _ 1 2 rfl (by omega) (fun x hx => KO.out x (List.mem_of_mem_take hx)) 1 w (rc.take 1) qt) (Aw17.e3 GA)).mono fun _ _ ⟨g, _, h1, h2, h3⟩ => by
      have e1 : (1 : Int).toNat = 1 := rfl
      rw [e1] at h1 h2
      rw [Aw17.m3 BO.symm hy] at h2
      exact ⟨g, h1, h2.cell (i := 0) rfl, h3⟩
  have D5 : Hid (∀ (w : World), QTab w → Calls Tryd.prog 8 #[.int .u64 5, .int .u64 (B : Nat), .int .i64 1] w fun e w' =>
      ∃ g, e = .returned (.tuple #[.slice (some ⟨g, 0, none⟩) 1 1, .int .i64 0]) ∧ w'.cell? ⟨g, 0, none⟩ = some (.int .u32 (y : Nat)) ∧ Old w w') := fun w qt =>
    (MR.yes (K.pairK 5 B (by omega) LB 1 w qt) (Aw17.ag5 GB)).mono fun _ _ ⟨g, _, h1, h2, h3⟩ => by
      rw [show kept 1 256 = 1 from rfl] at h1 h2
      rw [hy] at h2
      exact ⟨g, h1, h2.cell (i := 0) rfl, h3⟩
  have S1 := hide (Aw17.sum_eq z y ly)
  have S2 := hide (Aw17.zero_add y ly)
  rw [S2.out] at S1 D1 D4
  generalize add32 (add32 1 z) y = x1 at *
  generalize add32 (add32 2 z) (sub32 0 y) = x2 at *
  have RC := hide (Aw17.L_in (Row.new w 49 (Aw17.cs A B)))
  have O0 := hide (Old.of_alloc w (.cells (Aw17.cs A B).toArray 49))
  clear K GA GB LA LB BO hy hz KO S2
  go_enter Tryd.func13, Tryd.ntmps13
  go_wp2_with fail
  refine (P1.out _).mono ?_
  rintro e w1 ⟨rfl, rfl⟩
  go_wp2_with fail
  refine (P2.out _).mono ?_
  rintro e w1 ⟨rfl, rfl⟩
  clear P1 P2
  go_wp2_with fail
  refine (D1.out _ _ _ (rd_new (by simp) rfl) (RC.out.mono (Old.of_alloc _ _)) (HQ.out.mono (O0.out.alloc _))).mono ?_
  rintro e w2 ⟨ga, rfl, ca, o2⟩
  have RC2 := hide ((RC.out.mono (Old.of_alloc _ _)).mono o2)
  have O2 := hide ((O0.out.alloc (.cells #[.int .u32 1] 41)).trans o2)
  clear o2 RC O0 D1
  generalize w1.heap.size = gc at *
  go_wp2_with fail
  refine (D2.out _ _ _ (rd_new rfl rfl) (RC2.out.mono (Old.of_alloc _ _)) (HQ.out.mono (O2.out.alloc _))).mono ?_
  rintro e w3 ⟨gb, rfl, cb, o3⟩
  have RC3 := hide ((RC2.out.mono (Old.of_alloc _ _)).mono o3)
  have ca3 := o3.cell ((Old.of_alloc w2 (.cells #[.int .u32 2] 41)).cell ca)
  have O3 := hide ((O2.out.alloc (.cells #[.int .u32 2] 41)).trans o3)
  clear o3 RC2 O2 D2 ca
  go_wp2_with fail
  refine (D3.out _ (HQ.out.mono O3.out)).mono ?_
  rintro e w4 ⟨gz, rfl, cz, o4⟩
  have RC4 := hide (RC3.out.mono o4)
  have ca4 := o4.cell ca3
  have cb4 := o4.cell cb
  have O4 := hide (O3.out.trans o4)
  clear o4 RC3 O3 D3 ca3 cb
  go_wp2_with fail
  refine (D4.out _ _ RC4.out (HQ.out.mono O4.out)).mono ?_
  rintro e w5 ⟨gl, rfl, cl, o5⟩
  have RC5 := hide (RC4.out.mono o5)
  have ca5 := o5.cell ca4
  have cb5 := o5.cell cb4
  have cz5 := o5.cell cz
  have O5 := hide (O4.out.trans o5)
  clear o5 RC4 O4 D4 ca4 cb4 cz
  obtain ⟨b', off', eb, -, -, ck⟩ := RC5.out 1 ⟨2, 0, B⟩ rfl
  obtain ⟨rfl, rfl⟩ : gc = b' ∧ 0 = off' := by simpa using eb
  have ck5 : w5.cell? ⟨gc, 5, none⟩ = some (.int .u64 (B : Nat)) := ck
  clear ck eb
  go_wp2_with fail
  refine (D5.out _ (HQ.out.mono O5.out)).mono ?_
  rintro e w6 ⟨gx, rfl, cx, o6⟩
  have ca6 := o6.cell ca5
  have cb6 := o6.cell cb5
  have cz6 := o6.cell cz5
  have cl6 := o6.cell cl
  have O6 := hide (O5.out.trans o6)
  clear o6 RC5 O5 D5 ca5 cb5 cz5 cl ck5
  have T1 : (IntKind.u32.wrap ((x1 : Int) + (x2 : Int)) == IntKind.u32.wrap (3 + IntKind.u32.wrap (2 * (z : Int)))) = true := by
    show (((x1 : Int) + (x2 : Int)) % 4294967296 == (3 + 2 * (z : Int) % 4294967296) % 4294967296) = true
    rw [beq_iff_eq]
    have := S1.out
    unfold add32 at this
    omega
  go_wp2_with fail
  go_quiet (fail)
  go_wp2
  go_ret
  exact ⟨by first | rfl | simp, O6.out.drewN _⟩
end Go.Proofs.YtjbpnhibgafdmaaDoor
