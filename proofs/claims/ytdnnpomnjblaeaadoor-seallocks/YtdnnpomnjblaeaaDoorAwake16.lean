/-
  What was locked is opened; the fixed fact of layer 16's statements (offertorylaw16.awake) is true where the package's table is as its initialiser lays it.
-/
import Derived.Test.YtdnnpomnjblaeaaDoorSealR
import Derived.Test.YtdnnpomnjblaeaaDoorSame
namespace Go.Proofs.YtdnnpomnjblaeaaDoor
open Go.RowKit Cha Limb Sl M
set_option linter.unusedVariables false

theorem belowP_lt {xs : List Nat} (h : belowP xs = true) : ∀ x ∈ xs, x < 2305843009213693951 := by
  intro x hx
  have := List.all_eq_true.1 h x hx
  simpa using this

/-- What was locked is opened. -/
theorem open_locked (s p f t : Nat) (xs : List Nat) (a : Option Addr) (m cap : Nat) (hf : f ≤ 64) (ht : t ≤ 64) (h : (donP f && donP t) = true) (hl : xs.length = m) (hm : m ≤ 8) (hb : belowP xs = true) (q : Nat) (hq : q < 18446744073709551616) (w : World)
    (rd : Rd w a (nums .u8 (hid q f t (wr8 xs)))) (qt : QTab w)
    (c : Hid (∀ w, Calls Tryd.prog 27 #[.int .u64 s, .int .u64 p] w fun e w' => e = .returned (.tuple #[.int .u64 q, .int .i64 0]) ∧ w' = w)) :
    Calls Tryd.prog 12 #[.int .u64 s, .int .u64 p, .int .i64 f, .int .i64 t, .slice a (8 * m) cap] w fun e w' =>
      ∃ g, w.heap.size ≤ g ∧ e = .returned (.tuple #[.slice (some ⟨g, 0, none⟩) m m, .int .i64 0]) ∧ Row w' g 22 (nums .u64 xs) ∧ Old w w' := by
  have e : rd8 (hid q f t (hid q f t (wr8 xs))) = xs := by
    rw [hid_hid, rd8_wr8 fun x hx => Nat.lt_trans (belowP_lt hb x hx) (by decide)]
  have := open_some s p f t (hid q f t (wr8 xs)) a (8 * m) m cap w hf ht h (by rw [hid_length, wr8_length, hl]) rfl hm (hid_lt q f t (wr8_lt xs)) rd q hq qt c
  rw [e] at this
  refine this.mono fun e w' h => ?_
  obtain ⟨-, h2, h3⟩ := h
  obtain ⟨g, g0, g1, g2⟩ := h2 hb
  exact ⟨g, g0, g1, g2, h3⟩

namespace Aw16
def L : List Nat := [9, 10]
theorem good5 : goodP (powP 37 5) = true := by decide +kernel
theorem good7 : goodP (powP 37 7) = true := by decide +kernel
theorem both : powP (powP 37 7) 5 = powP (powP 37 5) 7 := by rw [← powP_mul, ← powP_mul]
theorem don : (donP ((1 : Nat) : Int) && donP ((2 : Nat) : Int)) = true := by decide
theorem ag5 (w : World) : Calls Tryd.prog 27 #[.int .u64 (5 : Nat), .int .u64 (powP 37 7 : Nat)] w fun e w' => e = .returned (.tuple #[.int .u64 (powP (powP 37 7) 5 : Nat), .int .i64 0]) ∧ w' = w :=
  Agree_some 5 (powP 37 7) (by omega) (by omega) (Nat.lt_trans (powP_lt _ _) (by omega)) good7 w
theorem ag7 (w : World) : Calls Tryd.prog 27 #[.int .u64 (7 : Nat), .int .u64 (powP 37 5 : Nat)] w fun e w' => e = .returned (.tuple #[.int .u64 (powP (powP 37 7) 5 : Nat), .int .i64 0]) ∧ w' = w := by
  rw [both]
  exact Agree_some 7 (powP 37 5) (by omega) (by omega) (Nat.lt_trans (powP_lt _ _) (by omega)) good5 w
theorem c1 (A B : Nat) (hA : A = powP 37 5) (hB : B = powP 37 7) (a : Option Addr) (w : World) (rd : Rd w a (nums .u64 L)) (qt : QTab w) :
    Calls Tryd.prog 6 #[.int .u64 5, .int .u64 (B : Nat), .int .i64 1, .int .i64 2, .slice a 2 2] w fun e w' =>
      ∃ g, e = .returned (.tuple #[.slice (some ⟨g, 0, none⟩) 16 16, .int .i64 0]) ∧ Row w' g 5 (nums .u8 (hid (powP (powP 37 7) 5) 1 2 (wr8 L))) ∧ Old w w' := by
  subst hA hB
  exact (lock_ok 5 (powP 37 7) 1 2 L a 2 2 w (by omega) (by omega) don rfl (by omega) rfl (by simp [L]) rd _ (Nat.lt_trans (powP_lt _ _) (by omega)) qt ag5).mono fun _ _ ⟨g, _, h1, h2, h3⟩ => ⟨g, h1, h2, h3⟩
theorem c2 (A B : Nat) (hA : A = powP 37 5) (hB : B = powP 37 7) (g : Nat) (w : World) (R : Row w g 5 (nums .u8 (hid (powP (powP 37 7) 5) 1 2 (wr8 L)))) (qt : QTab w) :
    Calls Tryd.prog 12 #[.int .u64 7, .int .u64 (A : Nat), .int .i64 1, .int .i64 2, .slice (some ⟨g, 0, none⟩) 16 16] w fun e w' =>
      ∃ g', e = .returned (.tuple #[.slice (some ⟨g', 0, none⟩) 2 2, .int .i64 0]) ∧ Row w' g' 22 (nums .u64 L) ∧ Old w w' := by
  subst hA hB
  exact (open_locked 7 (powP 37 5) 1 2 L (some ⟨g, 0, none⟩) 2 16 (by omega) (by omega) don rfl (by omega) rfl _ (Nat.lt_trans (powP_lt _ _) (by omega)) w R.rd qt ag7).mono fun _ _ ⟨g, _, h1, h2, h3⟩ => ⟨g, h1, h2, h3⟩
theorem c3 (A : Nat) (g : Nat) (w : World) :
    Calls Tryd.prog 12 #[.int .u64 7, .int .u64 (A : Nat), .int .i64 1, .int .i64 2, .slice (some ⟨g, 0, none⟩) 7 16] w fun e w' => e = .returned (.tuple #[.slice none 0 0, .int .i64 2]) ∧ Old w w' :=
  open_form 7 A ((1 : Nat) : Int) ((2 : Nat) : Int) (some ⟨g, 0, none⟩) 7 16 w don (by omega) (by omega)
end Aw16

set_option maxHeartbeats 2000000 in
theorem awake16 (w : World) (q : QTab w) :
    Calls Tryd.prog 9 #[] w fun e w' => e = .returned (.bool true) ∧ Old w w' := by
  have HQ := hide q
  clear q
  have P1 : Hid (∀ w, Calls Tryd.prog 14 #[.int .u64 37, .int .u64 5] w fun e w' => e = .returned (.int .u64 (powP 37 5 : Nat)) ∧ w' = w) := fun w => R1.Pow_any 37 5 (by omega) (by omega) w
  have P2 : Hid (∀ w, Calls Tryd.prog 14 #[.int .u64 37, .int .u64 7] w fun e w' => e = .returned (.int .u64 (powP 37 7 : Nat)) ∧ w' = w) := fun w => R1.Pow_any 37 7 (by omega) (by omega) w
  have D1 := hide (fun A B hA hB a w => Aw16.c1 A B hA hB a w)
  have D2 := hide (fun A B hA hB g w => Aw16.c2 A B hA hB g w)
  generalize hA : powP 37 5 = A at P1
  generalize hB : powP 37 7 = B at P2
  have HA := hide hA.symm
  have HB := hide hB.symm
  clear hA hB
  go_enter Tryd.func9, Tryd.ntmps9
  go_wp2_with fail
  refine (P1.out _).mono ?_
  rintro e w1 ⟨rfl, rfl⟩
  go_wp2_with fail
  refine (P2.out _).mono ?_
  rintro e w1 ⟨rfl, rfl⟩
  clear P1 P2
  go_wp2_with fail
  refine (D1.out A B HA.out HB.out _ _ (rd_new rfl rfl) (HQ.out.mono (Old.of_alloc _ _))).mono ?_
  rintro e w2 ⟨g, rfl, R2, o2⟩
  have O2 := (Old.of_alloc w1 (.cells #[.int .u64 9, .int .u64 10] 22)).trans o2
  clear o2 D1
  go_wp2_with fail
  refine (D2.out A B HA.out HB.out _ _ R2 (HQ.out.mono O2)).mono ?_
  rintro e w3 ⟨g3, rfl, R3, o3⟩
  have O3 := O2.trans o3
  clear O2 o3 R2 D2
  go_wp2_with fail
  refine (Aw16.c3 A g _).mono ?_
  rintro e w4 ⟨rfl, o4⟩
  have O4 := O3.trans o4
  have R4 := R3.mono o4
  clear O3 o4 R3
  have S5 : Hid (∀ w', Old w4 w' → ∀ b, Rd w' (some ⟨b, 0, none⟩) (nums .u64 Aw16.L) → Calls Tryd.prog 13 #[.slice (some ⟨g3, 0, none⟩) 2 2, .slice (some ⟨b, 0, none⟩) 2 2] w' fun e w'' => e = .returned (.bool true) ∧ Old w' w'') := fun w' o b rd => by
    have := R1.Same_any 2 2 Aw16.L Aw16.L _ _ 2 2 w' (by omega) rfl rfl (R4.mono o).rd rd
    rw [decide_eq_true rfl] at this
    exact this
  go_wp2_with fail
  refine (S5.out _ (Old.of_alloc _ _) _ (rd_new rfl rfl)).mono ?_
  rintro e w5 ⟨rfl, o5⟩
  have O5 := (O4.alloc (.cells #[.int .u64 9, .int .u64 10] 22)).trans o5
  go_wp2
  go_ret
  exact ⟨rfl, O5⟩
end Go.Proofs.YtdnnpomnjblaeaaDoor
