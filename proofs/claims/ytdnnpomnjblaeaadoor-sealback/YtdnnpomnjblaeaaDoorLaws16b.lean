/-
  Layer 16's statement SealBack.
-/
import Derived.Test.YtdnnpomnjblaeaaDoorLaws16
namespace Go.Proofs.YtdnnpomnjblaeaaDoor
open Go.RowKit Cha Limb Sl M
set_option linter.unusedVariables false

theorem sl_both (n m : Nat) : powP (powP 37 m) n = powP (powP 37 n) m := by
  rw [← powP_mul, ← powP_mul, Nat.mul_comm]

section
variable (a b : Nat) (f t : Nat) (xs : List Nat) (r : Option Addr) (n cap : Nat) (w : World)

set_option maxHeartbeats 1000000 in
/-- Nothing is locked. -/
theorem back_no (ha : a < 18446744073709551616) (hb : b < 18446744073709551616) (hf : f < 256) (ht : t < 256) (qt : QTab w) (x y : Nat) (E : Nat) (hE : ((E : Int) != 0) = true)
    (P1 : Hid (∀ w, Calls Tryd.prog 14 #[.int .u64 37, .int .u64 a] w fun e w' => e = .returned (.int .u64 (x : Nat)) ∧ w' = w))
    (P2 : Hid (∀ w, Calls Tryd.prog 14 #[.int .u64 37, .int .u64 b] w fun e w' => e = .returned (.int .u64 (y : Nat)) ∧ w' = w))
    (C1 : Hid (Calls Tryd.prog 6 #[.int .u64 a, .int .u64 y, .int .i64 ((f : Int) % 64 + 1), .int .i64 ((t : Int) % 64 + 1), .slice r n cap] w fun e w' => e = .returned (.tuple #[.slice none 0 0, .int .i64 E]) ∧ Old w w')) :
    Calls Tryd.prog 5 #[.int .u64 a, .int .u64 b, .int .u8 f, .int .u8 t, .slice r n cap] w fun e w' => e = .returned (.bool true) ∧ Old w w' := by
  have HQ := hide qt
  clear qt ha hb
  go_enter Tryd.func5, Tryd.ntmps5
  go_wp2_with fail
  refine (P1.out _).mono ?_
  rintro e w1 ⟨rfl, rfl⟩
  go_wp2_with fail
  refine (P2.out _).mono ?_
  rintro e w1 ⟨rfl, rfl⟩
  clear P1 P2
  go_wp2_with fail
  refine C1.out.mono ?_
  rintro e w1 ⟨rfl, o1⟩
  clear C1
  go_wp2_with fail
  refine (awake16 _ (HQ.out.mono o1)).mono ?_
  rintro e w2 ⟨rfl, o2⟩
  have O2 := o1.trans o2
  clear o1 o2
  go_wp2_with fail
  refine (awake16 _ (HQ.out.mono O2)).mono ?_
  rintro e w3 ⟨rfl, o3⟩
  go_wp2
  go_ret
  exact ⟨rfl, O2.trans o3⟩

set_option maxHeartbeats 2000000 in
/-- Something is locked. -/
theorem back_some (hf : f < 256) (ht : t < 256) (qt : QTab w) (x y q : Nat) (hn : n ≤ 8) (hl : xs.length = n) (rd : Rd w r (nums .u64 xs)) (g0 : Bool) (hg0 : goodP x = g0) (e0 : Bool) (he0 : (decide ((b : Int) < 1) || decide (2305843009213693949 < (b : Int))) = e0)
    (P1 : Hid (∀ w, Calls Tryd.prog 14 #[.int .u64 37, .int .u64 a] w fun e w' => e = .returned (.int .u64 (x : Nat)) ∧ w' = w))
    (P2 : Hid (∀ w, Calls Tryd.prog 14 #[.int .u64 37, .int .u64 b] w fun e w' => e = .returned (.int .u64 (y : Nat)) ∧ w' = w))
    (C1 : Hid (Calls Tryd.prog 6 #[.int .u64 a, .int .u64 y, .int .i64 ((f : Int) % 64 + 1), .int .i64 ((t : Int) % 64 + 1), .slice r n cap] w fun e w' => ∃ g, w.heap.size ≤ g ∧ e = .returned (.tuple #[.slice (some ⟨g, 0, none⟩) (8 * n) (8 * n), .int .i64 0]) ∧ Row w' g 5 (nums .u8 (hid q (f % 64 + 1) (t % 64 + 1) (wr8 xs))) ∧ Old w w'))
    (C2 : Hid (g0 = true → e0 = true → ∀ (g : Nat) (w' : World), Calls Tryd.prog 12 #[.int .u64 b, .int .u64 x, .int .i64 ((f : Int) % 64 + 1), .int .i64 ((t : Int) % 64 + 1), .slice (some ⟨g, 0, none⟩) (8 * n) (8 * n)] w' fun e w'' => e = .returned (.tuple #[.slice none 0 0, .int .i64 1]) ∧ Old w' w''))
    (C3 : Hid (g0 = true → e0 = false → ∀ (g : Nat) (w' : World), Old w w' → Rd w' (some ⟨g, 0, none⟩) (nums .u8 (hid q (f % 64 + 1) (t % 64 + 1) (wr8 xs))) → Calls Tryd.prog 12 #[.int .u64 b, .int .u64 x, .int .i64 ((f : Int) % 64 + 1), .int .i64 ((t : Int) % 64 + 1), .slice (some ⟨g, 0, none⟩) (8 * n) (8 * n)] w' fun e w'' =>
      ∃ g', w'.heap.size ≤ g' ∧ e = .returned (.tuple #[.slice (some ⟨g', 0, none⟩) n n, .int .i64 0]) ∧ Row w'' g' 22 (nums .u64 xs) ∧ Old w' w'')) :
    Calls Tryd.prog 5 #[.int .u64 a, .int .u64 b, .int .u8 f, .int .u8 t, .slice r n cap] w fun e w' => e = .returned (.bool true) ∧ Old w w' := by
  have HQ := hide qt
  have HL := hide hl
  have HR := hide rd
  have G := hide (R1Good_any x)
  rw [hg0] at G
  obtain ⟨m, hm⟩ : ∃ m, m = 8 * n := ⟨_, rfl⟩
  rw [← hm] at C1 C2 C3
  generalize hid q (f % 64 + 1) (t % 64 + 1) (wr8 xs) = ys at *
  clear qt hg0 hl rd hm
  cases g0
  · clear C2 C3 he0
    go_enter Tryd.func5, Tryd.ntmps5
    go_wp2_with fail
    refine (P1.out _).mono ?_
    rintro e w1 ⟨rfl, rfl⟩
    go_wp2_with fail
    refine (P2.out _).mono ?_
    rintro e w1 ⟨rfl, rfl⟩
    clear P1 P2
    go_wp2_with fail
    refine C1.out.mono ?_
    rintro e w1 ⟨g, -, rfl, -, o1⟩
    clear C1
    go_wp2_with fail
    refine (awake16 _ (HQ.out.mono o1)).mono ?_
    rintro e w2 ⟨rfl, o2⟩
    have O2 := o1.trans o2
    clear o1 o2
    go_wp2_with fail
    refine (G.out _).mono ?_
    rintro e w3 ⟨rfl, rfl⟩
    go_wp2_with fail
    refine (awake16 _ (HQ.out.mono O2)).mono ?_
    rintro e w3 ⟨rfl, o3⟩
    go_wp2
    go_ret
    exact ⟨rfl, O2.trans o3⟩
  · cases e0
    · have D := hide (C3.out rfl rfl)
      have d1 : decide ((b : Int) < 1) = false := by
        revert he0
        cases decide ((b : Int) < 1) <;> simp
      have d2 : decide (2305843009213693949 < (b : Int)) = false := by
        revert he0
        cases decide (2305843009213693949 < (b : Int)) <;> simp
      clear C2 C3 he0
      go_enter Tryd.func5, Tryd.ntmps5
      go_wp2_with fail
      refine (P1.out _).mono ?_
      rintro e w1 ⟨rfl, rfl⟩
      go_wp2_with fail
      refine (P2.out _).mono ?_
      rintro e w1 ⟨rfl, rfl⟩
      clear P1 P2
      go_wp2_with fail
      refine C1.out.mono ?_
      rintro e w1 ⟨g, -, rfl, RG, o1⟩
      clear C1
      go_wp2_with fail
      refine (awake16 _ (HQ.out.mono o1)).mono ?_
      rintro e w2 ⟨rfl, o2⟩
      have O2 := o1.trans o2
      have R2 := RG.mono o2
      clear o1 o2 RG
      go_wp2_with fail
      refine (G.out _).mono ?_
      rintro e w3 ⟨rfl, rfl⟩
      go_wp2_with fail
      refine (D.out g _ O2 R2.rd).mono ?_
      rintro e w4 ⟨g4, -, rfl, R4, o4⟩
      have O4 := O2.trans o4
      have SM := hide (R1.Same_any n n xs xs (some ⟨g4, 0, none⟩) r n cap w4 (by omega) HL.out HL.out R4.rd (HR.out.mono O4))
      rw [decide_eq_true rfl] at SM
      clear O2 o4 R2 D
      go_wp2_with fail
      refine SM.out.mono ?_
      rintro e w5 ⟨rfl, o5⟩
      go_wp2
      go_ret
      exact ⟨rfl, O4.trans o5⟩
    · have D := hide (C2.out rfl rfl)
      clear C2 C3
      by_cases hb1 : (b : Int) < 1
      · have d1 : decide ((b : Int) < 1) = true := decide_eq_true hb1
        clear he0 hb1
        go_enter Tryd.func5, Tryd.ntmps5
        go_wp2_with fail
        refine (P1.out _).mono ?_
        rintro e w1 ⟨rfl, rfl⟩
        go_wp2_with fail
        refine (P2.out _).mono ?_
        rintro e w1 ⟨rfl, rfl⟩
        clear P1 P2
        go_wp2_with fail
        refine C1.out.mono ?_
        rintro e w1 ⟨g, -, rfl, RG, o1⟩
        clear C1
        go_wp2_with fail
        refine (awake16 _ (HQ.out.mono o1)).mono ?_
        rintro e w2 ⟨rfl, o2⟩
        have O2 := o1.trans o2
        clear o1 o2 RG
        go_wp2_with fail
        refine (G.out _).mono ?_
        rintro e w3 ⟨rfl, rfl⟩
        go_wp2_with fail
        refine (D.out g _).mono ?_
        rintro e w4 ⟨rfl, o4⟩
        go_wp2
        go_ret
        exact ⟨rfl, O2.trans o4⟩
      · have d1 : decide ((b : Int) < 1) = false := decide_eq_false hb1
        have d2 : decide (2305843009213693949 < (b : Int)) = true := by rw [d1] at he0; simpa using he0
        clear he0 hb1
        go_enter Tryd.func5, Tryd.ntmps5
        go_wp2_with fail
        refine (P1.out _).mono ?_
        rintro e w1 ⟨rfl, rfl⟩
        go_wp2_with fail
        refine (P2.out _).mono ?_
        rintro e w1 ⟨rfl, rfl⟩
        clear P1 P2
        go_wp2_with fail
        refine C1.out.mono ?_
        rintro e w1 ⟨g, -, rfl, RG, o1⟩
        clear C1
        go_wp2_with fail
        refine (awake16 _ (HQ.out.mono o1)).mono ?_
        rintro e w2 ⟨rfl, o2⟩
        have O2 := o1.trans o2
        clear o1 o2 RG
        go_wp2_with fail
        refine (G.out _).mono ?_
        rintro e w3 ⟨rfl, rfl⟩
        go_wp2_with fail
        refine (D.out g _).mono ?_
        rintro e w4 ⟨rfl, o4⟩
        go_wp2
        go_ret
        exact ⟨rfl, O2.trans o4⟩
end

theorem walk_SealBack (v0 v1 v2 v3 v4 : Value) (w : World) (w0 : IsInt .u64 v0) (w1 : IsInt .u64 v1) (w2 : IsInt .u8 v2) (w3 : IsInt .u8 v3) (w4 : IsNums .u64 18446744073709551616 17592186043904 w v4) (qt : QTab w) :
    Calls Tryd.prog 5 #[v0, v1, v2, v3, v4] w fun e w' => e = .returned (.bool true) ∧ Old w w' := by
  obtain ⟨a, ha, rfl⟩ := sl64 w0
  obtain ⟨b, hb, rfl⟩ := sl64 w1
  obtain ⟨f, hf, rfl⟩ := sl8 w2
  obtain ⟨t, ht, rfl⟩ := sl8 w3
  obtain ⟨r, n, cap, xs, rfl, hl, hx, rd, hM, hcap⟩ := w4
  have P1 : Hid (∀ w, Calls Tryd.prog 14 #[.int .u64 37, .int .u64 a] w fun e w' => e = .returned (.int .u64 (powP 37 a : Nat)) ∧ w' = w) := fun w => R1.Pow_any 37 a (by omega) ha w
  have P2 : Hid (∀ w, Calls Tryd.prog 14 #[.int .u64 37, .int .u64 b] w fun e w' => e = .returned (.int .u64 (powP 37 b : Nat)) ∧ w' = w) := fun w => R1.Pow_any 37 b (by omega) hb w
  have ef : ((f : Int) % 64 + 1) = ((f % 64 + 1 : Nat) : Int) := by omega
  have et : ((t : Int) % 64 + 1) = ((t % 64 + 1 : Nat) : Int) := by omega
  have lf : f % 64 + 1 ≤ 64 := by omega
  have lt : t % 64 + 1 ≤ 64 := by omega
  have hd : (donP ((f % 64 + 1 : Nat) : Int) && donP ((t % 64 + 1 : Nat) : Int)) = true := by
    simp only [donP, Bool.and_eq_true, decide_eq_true_eq]
    omega
  have hx2 := powP_lt 37 a
  have hy := powP_lt 37 b
  have ag := fun w => agree_any a (powP 37 b) (Nat.lt_trans hy (by decide)) w
  by_cases hn : 8 < n
  · exact back_no a b f t r n cap w ha hb hf ht qt _ _ 1 (by decide) P1 P2 (by rw [ef, et]; exact lock_arg2 a (powP 37 b) _ _ r n cap w hd hn)
  · have hn8 : n ≤ 8 := by omega
    cases hB : belowP xs
    · exact back_no a b f t r n cap w ha hb hf ht qt _ _ 4 (by decide) P1 P2 (by rw [ef, et]; exact lock_range a (powP 37 b) _ _ xs r n cap w hd hl hn8 hB rd)
    · by_cases hE : agE a (powP 37 b) = 0
      · rcases agE_cases a (powP 37 b) with ⟨-, h1, h2, h3⟩ | ⟨h, -⟩ | ⟨h, -⟩
        · have hq : agN a (powP 37 b) = powP (powP 37 b) a := by unfold agN; rw [if_pos hE]
          rw [hE, hq] at ag
          have lq : powP (powP 37 b) a < 18446744073709551616 := Nat.lt_trans (powP_lt _ _) (by decide)
          refine back_some a b f t xs r n cap w hf ht qt (powP 37 a) (powP 37 b) (powP (powP 37 b) a) hn8 hl rd _ rfl _ rfl P1 P2 (by rw [ef, et]; exact lock_ok a (powP 37 b) _ _ xs r n cap w lf lt hd hl hn8 hB hx rd _ lq qt ag) ?_ ?_
          · intro hg he g w'
            rw [ef, et]
            have hbb : b < 1 ∨ 2305843009213693949 < b := by
              simp only [Bool.or_eq_true, decide_eq_true_eq] at he
              omega
            exact open_agree b (powP 37 a) _ _ (some ⟨g, 0, none⟩) (8 * n) (8 * n) w' hd (by omega) (by omega) 1 (by decide) (fun w => Agree_none b (powP 37 a) hbb w)
          · intro hg he g w' o rd'
            rw [ef, et]
            have hbb : 1 ≤ b ∧ b ≤ 2305843009213693949 := by
              simp only [Bool.or_eq_false_iff, decide_eq_false_iff_not] at he
              omega
            exact open_locked b (powP 37 a) _ _ xs (some ⟨g, 0, none⟩) n (8 * n) lf lt hd hl hn8 hB _ lq w' rd' (qt.mono o) (fun w => by rw [sl_both]; exact Agree_some b (powP 37 a) hbb.1 hbb.2 (Nat.lt_trans hx2 (by decide)) hg w)
        · omega
        · omega
      · have hz : agN a (powP 37 b) = 0 := by unfold agN; rw [if_neg hE]
        rw [hz] at ag
        have hE2 : ((agE a (powP 37 b) : Int) != 0) = true := by rw [bne_iff_ne]; omega
        exact back_no a b f t r n cap w ha hb hf ht qt _ _ _ hE2 P1 P2 (by rw [ef, et]; exact lock_agree a (powP 37 b) _ _ xs r n cap w hd hl hn8 hB hx rd _ hE2 ag)
end Go.Proofs.YtdnnpomnjblaeaaDoor
