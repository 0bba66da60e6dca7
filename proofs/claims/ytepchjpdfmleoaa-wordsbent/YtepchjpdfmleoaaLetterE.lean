/-
  Slices of bytes joined and copied: slices.Grow, Concat, Clone.
-/
import Derived.Test.YtepchjpdfmleoaaLetterD
import Derived.Lib.AppendZeros
import Derived.Laws.Cover3
namespace Go.Proofs.Ytepchjpdfmleoaa
open Go.RowKit Cn
set_option linter.unusedVariables false

set_option maxHeartbeats 2000000 in
theorem grow8_any (n : Nat) (h0 : 0 < n) (hn : n ≤ 1000000) (w : World) :
    Calls Try.prog 93 #[.slice none 0 0, .int .i64 (n : Int)] w fun e w' => ∃ v, e = .returned v ∧ OwnsB w' w.heap.size v [] ∧ Old w w' := by
  obtain ⟨i0, h1, h2, h3, h4⟩ := info_parts (P := Try.prog) (e := 5) (show (Try.prog.info? 5).map (fun i => (i.zero, i.size, i.bytes)) = some (some (.int .u8 0), 1, 1) by kernel_rfl)
  have hr := fun w' : World => Lib.run_append_nil_zeros (P := Try.prog) w' 32 3 32 5 i0 (.int .u8 0) .i64 .i64 Try.underlying32 Try.underlying3 h1 h2 n h0 (by omega) (by omega) (by rw [h4]; omega)
  obtain ⟨cap, hcap⟩ : ∃ cap, cap = grownCap w n 0 5 := ⟨_, rfl⟩
  have hge := grownCap_ge w n 0 5
  have hm : grownCap w n 0 5 ≤ maxLen := grownCap_le_maxLen w n 0 5 (by unfold maxLen; omega)
  have hr := hr w
  rw [← hcap] at hr hge hm
  have OW : Hid (OwnsB (w.drew.alloc (.cells (Builtin.zeroCells (Value.int .u8 0).cells n ++ Builtin.zeroCells (Value.int .u8 0).cells (cap - n)) 5)) w.heap.size (.slice (some ⟨w.drew.heap.size, 0, none⟩) 0 cap) []) := OwnsB.made w.drew w.heap.size cap (Nat.le_refl _) hm _ (by simp [Builtin.zeroCells, Value.cells]; omega)
  have O1 : Old w (w.drew.alloc (.cells (Builtin.zeroCells (Value.int .u8 0).cells n ++ Builtin.zeroCells (Value.int .u8 0).cells (cap - n)) 5)) := (Old.refl w).drew.alloc _
  revert hr OW O1
  generalize (Builtin.zeroCells (Value.int .u8 0).cells n ++ Builtin.zeroCells (Value.int .u8 0).cells (cap - n)) = zs
  intro hr OW O1
  have t1 : decide ((n : Int) < 0) = false := decide_eq_false (by omega)
  have t2 : decide ((0 : Int) < n) = true := decide_eq_true (by omega)
  have t3 : decide (0 < n) = true := decide_eq_true h0
  have iw : wrap64 (n : Int) = n := by unfold wrap64; omega
  clear hcap h1 h2 h3 h4 i0
  go_enter Try.func93, Try.ntmps93
  go_wp2_with (at_builtin; refine Lib.wpList_append_run _ rfl _ _ _ _ rfl _ _ rfl rfl _ _ hr ?_)
  go_wp2
  go_ret
  exact ⟨_, rfl, OW.out, O1⟩

def pre2 (xs ys : List Nat) : Nat → List Nat
  | 0 => []
  | 1 => xs
  | _ => xs ++ ys
def sum2 (n m : Nat) : Nat → Nat
  | 0 => 0
  | 1 => n
  | _ => n + m

set_option maxHeartbeats 4000000 in
theorem concat_any (h : Nat) (a1 a2 : Option Addr) (n1 k1 n2 k2 : Nat) (xs ys : List Nat) (w : World) (rh : Rd w (some ⟨h, 0, none⟩) [.slice a1 n1 k1, .slice a2 n2 k2]) (l1 : xs.length = n1) (l2 : ys.length = n2) (r1 : Rd w a1 (nums .u8 xs)) (r2 : Rd w a2 (nums .u8 ys)) (h0 : 0 < n1 + n2) (hn1 : n1 ≤ 100000) (hn2 : n2 ≤ 100000) :
    Calls Try.prog 65 #[.slice (some ⟨h, 0, none⟩) 2 2] w fun e w' => ∃ v, e = .returned v ∧ OwnsB w' w.heap.size v (xs ++ ys) ∧ Old w w' := by
  have RH := hide rh
  have L1 := hide l1
  have L2 := hide l2
  have R1 := hide r1
  have R2 := hide r2
  have cells : ∀ w', Old w w' → w'.cell? ⟨h, 0, none⟩ = some (.slice a1 n1 k1) ∧ w'.cell? ⟨h, 1, none⟩ = some (.slice a2 n2 k2) := by
    intro w' o
    obtain ⟨b, off, e, hc⟩ := rh.mono o 0 _ rfl
    obtain ⟨b', off', e', hc'⟩ := rh.mono o 1 _ rfl
    cases e; cases e'
    exact ⟨hc, hc'⟩
  have HC := hide cells
  obtain ⟨c0, c1⟩ := cells w (Old.refl w)
  have G0 := hide (fun w' : World => grow8_any (n1 + n2) h0 (by omega) w')
  have H0 := hide h0
  clear rh l1 l2 r1 r2 cells h0
  go_enter Try.func65, Try.ntmps65
  go_wp2_with fail
  go_loop [3, 5, 11] (fun v3 v5 v11 => ∃ k : Nat, k ≤ 2 ∧ v11 = .int .i64 (k : Int) ∧ v3 = .int .i64 (sum2 n1 n2 k : Nat)) (fun _ _ v11 => 2 - (intOf v11).toNat)
  case atStart => exact ⟨0, by omega, rfl, rfl⟩
  case round =>
    obtain ⟨k, hk, rfl, rfl⟩ := hrel
    rcases (show k = 0 ∨ k = 1 ∨ k = 2 by omega) with rfl | rfl | rfl
    · have t1 : decide (((0 : Nat) : Int) < 2) = true := rfl
      have iw : wrap64 (n1 : Int) = n1 := by unfold wrap64; omega
      have t2 : decide ((n1 : Int) < 0) = false := decide_eq_false (by omega)
      rw [show sum2 n1 n2 0 = 0 from rfl]
      go_wp2
      exact ⟨⟨1, by omega, rfl, rfl⟩, by simp [intOf]⟩
    · have t1 : decide (((1 : Nat) : Int) < 2) = true := rfl
      have iw : wrap64 ((n1 : Int) + (n2 : Int)) = ((n1 + n2 : Nat) : Int) := by unfold wrap64; omega
      have t2 : decide (((n1 + n2 : Nat) : Int) < 0) = false := decide_eq_false (by omega)
      have t3 : decide ((n1 : Int) + (n2 : Int) < 0) = false := decide_eq_false (by omega)
      rw [show sum2 n1 n2 1 = n1 from rfl]
      go_wp2
      exact ⟨⟨2, by omega, rfl, by simp [sum2]⟩, by simp [intOf]⟩
    · have t1 : decide (((2 : Nat) : Int) < 2) = false := rfl
      rw [show sum2 n1 n2 2 = n1 + n2 from rfl]
      go_wp2_with fail
      refine (G0.out _).mono ?_
      rintro e w1 ⟨v1, rfl, ow, o1⟩
      go_wp2_with fail
      go_loopw [6, 8, 27] (fun v6 v8 v27 wr => ∃ k : Nat, k ≤ 2 ∧ v27 = .int .i64 (k : Int) ∧ Hid (OwnsB wr w.heap.size v6 (pre2 xs ys k)) ∧ Hid (Old w wr)) (fun _ _ v27 _ => 2 - (intOf v27).toNat)
      case atStart => exact ⟨0, by omega, rfl, ow, o1⟩
      case round =>
        clear ow o1 c0 c1
        obtain ⟨k, hk, rfl, OW, O⟩ := hrel
        obtain ⟨c0, c1⟩ := HC.out _ O.out
        have lx := L1.out
        have ly := L2.out
        rcases (show k = 0 ∨ k = 1 ∨ k = 2 by omega) with rfl | rfl | rfl
        · have t1 : decide (((0 : Nat) : Int) < 2) = true := rfl
          have hz := O.out.size
          go_wp2_with (at_builtin; refine wp_appendB rfl _ _ rfl w.heap.size _ [] rfl OW.out a1 n1 k1 xs rfl L1.out (R1.out.mono O.out) (by simp; omega) hz ?_; rintro v' w' ow gr ob
                       have OX : Hid (OwnsB w' w.heap.size v' (pre2 xs ys 1)) := ow
                       have O2 : Hid (Old w w') := by
                         refine Below.grown O.out gr O.out.size ?_
                         intro j hj
                         exact (OW.out.lt hj).1
                       clear ow gr ob)
          go_wp2
          exact ⟨⟨1, by omega, rfl, OX, O2⟩, by simp [intOf]⟩
        · have t1 : decide (((1 : Nat) : Int) < 2) = true := rfl
          have hz := O.out.size
          go_wp2_with (at_builtin; refine wp_appendB rfl _ _ rfl w.heap.size _ xs rfl OW.out a2 n2 k2 ys rfl L2.out (R2.out.mono O.out) (by omega) hz ?_; rintro v' w' ow gr ob
                       have OX : Hid (OwnsB w' w.heap.size v' (pre2 xs ys 2)) := ow
                       have O2 : Hid (Old w w') := by
                         refine Below.grown O.out gr O.out.size ?_
                         intro j hj
                         exact (OW.out.lt hj).1
                       clear ow gr ob)
          go_wp2
          exact ⟨⟨2, by omega, rfl, OX, O2⟩, by simp [intOf]⟩
        · have t1 : decide (((2 : Nat) : Int) < 2) = false := rfl
          go_wp2
          go_ret
          exact ⟨_, rfl, OW.out, O.out⟩

theorem run_eql_nil8 (a : Option Addr) (l c : Nat) (w : World) : (binOp .eql 32 (.slice a l c) (.slice none 0 0)).run Try.prog w = .ok (.bool a.isNone) w := by
  simp only [binOp]
  simp [run_equal_slice_nil w 32 5 a l c Try.underlying32]

set_option maxHeartbeats 2000000 in
theorem clone_any (a : Option Addr) (n cap : Nat) (xs : List Nat) (w : World) (l1 : xs.length = n) (r1 : Rd w a (nums .u8 xs)) (hn1 : n ≤ 100000) :
    Calls Try.prog 68 #[.slice a n cap] w fun e w' => ∃ v, e = .returned v ∧ OwnsB w' w.heap.size v xs ∧ Old w w' := by
  have L1 := hide l1
  have R1 := hide r1
  cases a with
  | none =>
    obtain rfl : xs = [] := by
      cases xs with
      | nil => rfl
      | cons y r =>
        obtain ⟨_, _, e, _⟩ := r1 0 (.int .u8 (y : Int)) (by simp [nums])
        cases e
    obtain rfl : n = 0 := by simpa using l1.symm
    clear l1 r1
    have E := run_eql_nil8 none 0 cap w
    go_enter Try.func68, Try.ntmps68
    go_wp2
    go_ret
    exact ⟨_, rfl, OwnsB.none _ _, Old.refl _⟩
  | some a =>
    clear l1 r1
    have E := run_eql_nil8 (some a) n cap w
    have OW := hide (OwnsB.empty w w.heap.size (Nat.le_refl _))
    have o1 := Old.of_alloc w (.cells #[] 5)
    have O1 := hide o1
    have RX := hide (R1.out.mono o1)
    have hz := o1.size
    clear o1
    go_enter Try.func68, Try.ntmps68
    go_wp2_with (at_builtin; go_loud (refine wp_appendB rfl _ _ rfl w.heap.size _ [] rfl OW.out (some a) n cap xs rfl L1.out RX.out (by simp; omega) hz ?_); rintro v' w' ow gr ob
                 have OX : Hid (OwnsB w' w.heap.size v' xs) := ow
                 have O2 : Hid (Old w w') := by
                   refine Below.grown O1.out gr O1.out.size ?_
                   intro j hj
                   exact (OW.out.lt hj).1
                 clear ow gr ob)
    go_wp2
    go_ret
    exact ⟨_, rfl, OX.out, O2.out⟩
end Go.Proofs.Ytepchjpdfmleoaa
