/-
  Layer 16's statement SealLocks.
-/
import Derived.Test.YtdnnpomnjblaeaaDoorAwake16
import Derived.Test.YtdnnpomnjblaeaaDoorOpen
namespace Go.Proofs.YtdnnpomnjblaeaaDoor
open Go.RowKit Cha Limb Sl M
set_option linter.unusedVariables false

theorem sl64 {v : Value} (h : IsInt .u64 v) : ∃ n : Nat, n < 18446744073709551616 ∧ v = .int .u64 (n : Int) := by
  obtain ⟨a, rfl, h⟩ := h
  have := bounds_u64 h
  exact ⟨a.toNat, by omega, by congr; omega⟩
theorem sl8 {v : Value} (h : IsInt .u8 v) : ∃ n : Nat, n < 256 ∧ v = .int .u8 (n : Int) := by
  obtain ⟨a, rfl, h⟩ := h
  have := bounds_u8 h
  exact ⟨a.toNat, by omega, by congr; omega⟩
theorem slI {v : Value} (h : IsInt .i64 v) : ∃ n : Int, v = .int .i64 n := by
  obtain ⟨a, rfl, h⟩ := h
  exact ⟨a, rfl⟩

/-- The error that the statement has in mind when k values have been looked at. -/
def fE (xs : List Nat) (E k : Nat) : Nat := if belowP (xs.take k) = true then E else 4
theorem fE_zero (xs : List Nat) (E : Nat) : fE xs E 0 = E := rfl
theorem fE_all (xs : List Nat) (E : Nat) {n : Nat} (h : xs.length = n) : fE xs E n = if belowP xs = true then E else 4 := by
  unfold fE
  rw [List.take_of_length_le (by omega)]
theorem fE_keep {xs : List Nat} {E k x : Nat} (hx : xs[k]? = some x) (h : x < 2305843009213693951) : fE xs E (k + 1) = fE xs E k := by
  unfold fE belowP
  rw [List.take_add_one, hx, List.all_append]
  simp [h]
theorem fE_four {xs : List Nat} {E k x : Nat} (hx : xs[k]? = some x) (h : ¬ x < 2305843009213693951) : fE xs E (k + 1) = 4 := by
  unfold fE belowP
  rw [List.take_add_one, hx, List.all_append]
  simp [h]

/-- A slice of bytes, somewhere. -/
def bytesX (m : Nat) (xs : List Nat) : Ssx.XP Old := ⟨fun v w => ∃ b c, v = .slice b m c ∧ Rd w b (nums .u8 xs), fun _ _ _ ⟨b, c, h1, h2⟩ o => ⟨b, c, h1, h2.mono o⟩⟩

section
variable (s p : Nat) (f t : Int) (xs : List Nat) (a : Option Addr) (n cap : Nat) (w : World)

set_option maxHeartbeats 1000000 in
/-- Not two donors, or too many values. -/
theorem locks_arg (h : (donP f && donP t) = false ∨ 8 < n) (hs : s < 18446744073709551616) (hp : p < 18446744073709551616) (qt : QTab w) :
    Calls Tryd.prog 3 #[.int .u64 s, .int .u64 p, .int .i64 f, .int .i64 t, .slice a n cap] w fun e w' => e = .returned (.bool true) ∧ Old w w' := by
  have HQ := hide qt
  have C2 := hide (refAgree16_any s p hs hp)
  have C3 := hide (who_any f t)
  generalize agN s p = N at C2
  generalize agE s p = E at C2
  clear qt hs hp
  cases hb : (donP f && donP t)
  · have C1 := hide (lock_arg1 s p f t a n cap w hb)
    rw [hb] at C3
    clear h hb
    go_enter Tryd.func3, Tryd.ntmps3
    go_wp2_with fail
    refine C1.out.mono ?_
    rintro e w1 ⟨rfl, o1⟩
    go_wp2_with fail
    refine (C2.out _).mono ?_
    rintro e w2 ⟨rfl, rfl⟩
    go_wp2_with fail
    refine (C3.out _).mono ?_
    rintro e w3 ⟨rfl, rfl⟩
    go_wp2_with fail
    refine (awake16 _ (HQ.out.mono o1)).mono ?_
    rintro e w4 ⟨rfl, o4⟩
    go_wp2
    go_ret
    exact ⟨rfl, o1.trans o4⟩
  · have hn : 8 < n := by
      rcases h with h | h
      · rw [hb] at h; cases h
      · exact h
    have C1 := hide (lock_arg2 s p f t a n cap w hb hn)
    have d1 : decide ((8 : Int) < n) = true := decide_eq_true (by omega)
    rw [hb] at C3
    clear h hb hn
    go_enter Tryd.func3, Tryd.ntmps3
    go_wp2_with fail
    refine C1.out.mono ?_
    rintro e w1 ⟨rfl, o1⟩
    go_wp2_with fail
    refine (C2.out _).mono ?_
    rintro e w2 ⟨rfl, rfl⟩
    go_wp2_with fail
    refine (C3.out _).mono ?_
    rintro e w3 ⟨rfl, rfl⟩
    go_wp2_with fail
    refine (awake16 _ (HQ.out.mono o1)).mono ?_
    rintro e w4 ⟨rfl, o4⟩
    go_wp2
    go_ret
    exact ⟨rfl, o1.trans o4⟩

set_option maxHeartbeats 4000000 in
theorem locks_no (h : (donP f && donP t) = true) (hl : xs.length = n) (hn : n ≤ 8) (rd : Rd w a (nums .u64 xs)) (hs : s < 18446744073709551616) (hp : p < 18446744073709551616) (qt : QTab w) (G : Nat) (hG : fE xs (agE s p) n = G) (hG0 : ((G : Int) != 0) = true)
    (C1 : Hid (Calls Tryd.prog 6 #[.int .u64 s, .int .u64 p, .int .i64 f, .int .i64 t, .slice a n cap] w fun e w' => e = .returned (.tuple #[.slice none 0 0, .int .i64 G]) ∧ Old w w')) :
    Calls Tryd.prog 3 #[.int .u64 s, .int .u64 p, .int .i64 f, .int .i64 t, .slice a n cap] w fun e w' => e = .returned (.bool true) ∧ Old w w' := by
  have HQ := hide qt
  have HL := hide hl
  have HR := hide rd
  have C2 := hide (refAgree16_any s p hs hp)
  have C3 := hide (who_any f t)
  rw [h] at C3
  have d1 : decide ((8 : Int) < n) = false := decide_eq_false (by omega)
  have HF := hide hG
  revert C2 HF
  generalize agN s p = N
  generalize agE s p = E
  intro C2 HF
  clear h qt hs hp hl rd hG
  go_enter Tryd.func3, Tryd.ntmps3
  go_wp2_with fail
  refine C1.out.mono ?_
  rintro e w1 ⟨rfl, o1⟩
  clear C1
  go_wp2_with fail
  refine (C2.out _).mono ?_
  rintro e w2 ⟨rfl, rfl⟩
  clear C2
  go_wp2_with fail
  refine (C3.out _).mono ?_
  rintro e w3 ⟨rfl, rfl⟩
  clear C3
  go_wp2_with fail
  go_loop [14, 15] (fun vf vi => ∃ k : Nat, k ≤ n ∧ vi = .int .i64 (k : Nat) ∧ vf = .int .i64 (fE xs E k : Nat)) (fun _ vi => (n - intOf vi).toNat)
  case atStart => exact ⟨0, by omega, rfl, by rw [fE_zero]⟩
  case round =>
    obtain ⟨k, hk, rfl, rfl⟩ := hrel
    by_cases hkn : k = n
    · subst hkn
      rw [HF.out]
      go_wp2_with fail
      refine (awake16 _ (HQ.out.mono o1)).mono ?_
      rintro e w4 ⟨rfl, o4⟩
      go_wp2
      go_ret
      exact ⟨by simp, o1.trans o4⟩
    · have hkl : k < n := by omega
      obtain ⟨b, off, x, rfl, Hx, hc0⟩ := HR.out.num (i := k) (by rw [HL.out]; exact hkl)
      have hc := o1.cell hc0
      have hki : (0 : Int) ≤ k := by omega
      have hki2 : (k : Int) < n := by omega
      clear hc0
      by_cases hx : x < 2305843009213693951
      · have d2 : decide ((2305843009213693951 : Int) ≤ x) = false := decide_eq_false (by omega)
        have FK := hide (fE_keep (E := E) Hx.out hx)
        clear hx
        go_wp2
        go_round
        case rel => exact ⟨k + 1, by omega, by go_num, by rw [FK.out]⟩
        case measure => simp [intOf]; omega
      · have d2 : decide ((2305843009213693951 : Int) ≤ x) = true := decide_eq_true (by omega)
        have FK := hide (fE_four (E := E) Hx.out hx)
        clear hx
        go_wp2
        go_round
        case rel => exact ⟨k + 1, by omega, by go_num, by rw [FK.out]; rfl⟩
        case measure => simp [intOf]; omega
end

section
variable (s p f t : Nat) (xs : List Nat) (a : Option Addr) (n cap : Nat) (w : World)

set_option maxHeartbeats 4000000 in
theorem locks_ok (hf : f ≤ 64) (ht : t ≤ 64) (h : (donP f && donP t) = true) (hl : xs.length = n) (hn : n ≤ 8) (hb : ∀ x ∈ xs, x < 18446744073709551616) (rd : Rd w a (nums .u64 xs)) (hs : s < 18446744073709551616) (hp : p < 18446744073709551616) (qt : QTab w) (hG : fE xs (agE s p) n = 0)
    (C1 : Hid (Calls Tryd.prog 6 #[.int .u64 s, .int .u64 p, .int .i64 f, .int .i64 t, .slice a n cap] w fun e w' => ∃ g, w.heap.size ≤ g ∧ e = .returned (.tuple #[.slice (some ⟨g, 0, none⟩) (8 * n) (8 * n), .int .i64 0]) ∧ Row w' g 5 (nums .u8 (hid (agN s p) f t (wr8 xs))) ∧ Old w w')) :
    Calls Tryd.prog 3 #[.int .u64 s, .int .u64 p, .int .i64 f, .int .i64 t, .slice a n cap] w fun e w' => e = .returned (.bool true) ∧ Old w w' := by
  have HQ := hide qt
  have HL := hide hl
  have HR := hide rd
  have C2 := hide (refAgree16_any s p hs hp)
  have C3 := hide (who_any f t)
  rw [h] at C3
  have d1 : decide ((8 : Int) < n) = false := decide_eq_false (by omega)
  have HF := hide hG
  have NL := Nat.lt_trans (agN_lt s p) (show 2305843009213693951 < 18446744073709551616 by decide)
  have C5 := hide (fun (w' : World) (o : Old w w') => refBytes16_any xs a n cap hl hn hb w' (rd.mono o))
  have C6 := hide (fun (b : Option Addr) (c' : Nat) (w' : World) (rd' : Rd w' b (nums .u8 (wr8 xs))) => Hidden_any (agN s p) f t hf ht NL (wr8 xs) b (8 * n) c' (by rw [wr8_length, hl]) (by omega) (wr8_lt xs) w' rd')
  have YL : Hid ((hid (agN s p) f t (wr8 xs)).length = 8 * n) := by show _ = _; rw [hid_length, wr8_length, hl]
  obtain ⟨m, hm⟩ : ∃ m, m = 8 * n := ⟨_, rfl⟩
  rw [← hm] at C1 C5 C6 YL
  generalize hid (agN s p) f t (wr8 xs) = ys at *
  generalize wr8 xs = bs at *
  clear hm NL
  revert C2 HF C6
  generalize agN s p = N
  generalize agE s p = E
  intro C2 HF C6
  clear h qt hs hp hl rd hG hb hf ht
  go_enter Tryd.func3, Tryd.ntmps3
  go_wp2_with fail
  refine C1.out.mono ?_
  rintro e w1 ⟨g, g0, rfl, RG, o1⟩
  clear C1
  go_wp2_with fail
  refine (C2.out _).mono ?_
  rintro e w2 ⟨rfl, rfl⟩
  clear C2
  go_wp2_with fail
  refine (C3.out _).mono ?_
  rintro e w3 ⟨rfl, rfl⟩
  clear C3
  go_wp2_with fail
  go_loop [14, 15] (fun vf vi => ∃ k : Nat, k ≤ n ∧ vi = .int .i64 (k : Nat) ∧ vf = .int .i64 (fE xs E k : Nat)) (fun _ vi => (n - intOf vi).toNat)
  case atStart => exact ⟨0, by omega, rfl, by rw [fE_zero]⟩
  case round =>
    obtain ⟨k, hk, rfl, rfl⟩ := hrel
    by_cases hkn : k = n
    · subst hkn
      rw [HF.out]
      go_wp2_with fail
      have B1 : Old w3 (w3.drewN 1) := (Old.refl w3).drewN 1
      refine Ssx.region (Ext := Old) (fun w' => Old w3 w') [64, 65, 66, 67, 68, 69, 70, 71, 72, 73, 74, 75, 76, 77, 78, 79, 80, 10]
        [(64, Ssx.cst (.bool true)), (65, Ssx.cst (.bool true)), (66, Ssx.cst (.int .i64 0)), (67, Ssx.cst (.bool true)), (68, Ssx.cst (.bool true)), (69, Ssx.cst (.bool true)), (70, Ssx.cst (.slice (some ⟨g, 0, none⟩) m m)), (71, Ssx.cst (.string (Ssb.bstr ys))), (72, Ssx.nat .u64 N), (73, Ssx.nat .i64 f), (74, Ssx.nat .i64 t), (75, Ssx.cst (.slice a k cap)),
         (76, bytesX m bs), (77, fresh w.heap.size .u8 5 m ys), (78, Ssx.cst (.string (Ssb.bstr ys))), (79, Ssx.cst (.bool true)), (80, Ssx.cst (.bool true)), (10, Ssx.cst (.bool true))]
        [(65, true), (69, true)] (by kernel_rfl) (by kernel_rfl) (by kernel_rfl) (by kernel_rfl) ?told (by kernel_rfl) (by kernel_rfl) (by kernel_rfl) B1 ?good ?behind
      case told =>
        intro t b ht v w' h
        simp only [List.mem_cons, List.not_mem_nil, or_false, Prod.mk.injEq] at ht
        rcases ht with ⟨rfl, rfl⟩ | ⟨rfl, rfl⟩ <;> exact h
      case good =>
        refine ⟨?_, Ssx.mv Old.refl rfl rfl (fun _ _ h => h), Ssx.mv Old.refl rfl rfl (fun _ _ h => h), Ssx.val1 Old.refl (x := 66) (.int .i64 0) (by simp [Op.operands]) rfl (fun _ _ h => h) (fun ρ h1 hc w => by unfold execOp; simp [h1, hc, go_sem, eqGuard]) (fun _ => rfl), Ssx.and Old.refl rfl rfl (fun _ _ h => h) (fun _ _ h => h), Ssx.mv Old.refl rfl rfl (fun _ _ h => h), Ssx.mv Old.refl rfl rfl (fun _ _ h => h),
          Ssx.str Old.refl rfl rfl Tryd.underlying24 Tryd.underlying5 Tryd.underlying9 (fun _ _ hC h => ⟨_, _, _, _, h, YL.out, RG.rd.mono hC, rfl⟩), Ssx.mv Old.refl rfl rfl (fun _ _ h => h), Ssx.mv Old.refl rfl rfl (fun _ _ h => h), Ssx.mv Old.refl rfl rfl (fun _ _ h => h), Ssx.mv Old.refl rfl rfl (fun _ _ h => h), ?_, ?_,
          Ssx.str Old.refl rfl rfl Tryd.underlying24 Tryd.underlying5 Tryd.underlying9 (fun _ _ _ ⟨g, _, h1, h2⟩ => ⟨_, _, _, _, h1, YL.out, h2.rd, rfl⟩), Ssx.eqs Old.refl rfl rfl Tryd.underlying9 _ (fun _ _ h => h) (fun _ _ h => h) (fun _ => rfl), Ssx.and Old.refl rfl rfl (fun _ _ h => h) (fun _ _ h => h), Ssx.asg Old.refl rfl rfl (fun _ _ h => h), trivial⟩
        · refine Ssx.call rfl fun a w' hC hop => ⟨9, #[], ?_, ?_⟩
          · simp [go_sem]
          · exact (awake16 w' (HQ.out.mono (o1.trans hC))).mono fun _ _ ⟨h1, h2⟩ => ⟨_, h1, hC.trans h2, h2, rfl⟩
        · refine Ssx.call rfl fun a' w' hC hop => ⟨11, #[.slice a k cap], ?_, ?_⟩
          · have h1 : a'.eval (.tmp 75) = .slice a k cap := hop 75 (by simp [Op.operands, Call.operands])
            simp [Act.eval] at h1
            simp [h1, go_sem]
          · exact (C5.out w' (o1.trans hC)).mono fun _ _ ⟨b, c, h1, h2, h3⟩ => ⟨_, h1, hC.trans h3, h3, ⟨b, c, rfl, h2⟩⟩
        · refine Ssx.call rfl fun a' w' hC hop => ?_
          have h1 : a'.eval (.tmp 72) = .int .u64 (N : Nat) := hop 72 (by simp [Op.operands, Call.operands])
          have h2 : a'.eval (.tmp 73) = .int .i64 (f : Nat) := hop 73 (by simp [Op.operands, Call.operands])
          have h3 : a'.eval (.tmp 74) = .int .i64 (t : Nat) := hop 74 (by simp [Op.operands, Call.operands])
          obtain ⟨b, c, h4, h5⟩ : (bytesX m bs).p (a'.eval (.tmp 76)) w' := hop 76 (by simp [Op.operands, Call.operands])
          refine ⟨10, #[.int .u64 (N : Nat), .int .i64 (f : Nat), .int .i64 (t : Nat), .slice b m c], ?_, ?_⟩
          · simp [Act.eval] at h1 h2 h3 h4
            simp [h1, h2, h3, h4, go_sem]
          · exact (C6.out b c w' h5).mono fun _ _ ⟨g, h0, h1, h2, h3⟩ => ⟨_, h1, hC.trans h3, h3, ⟨g, Nat.le_trans (o1.trans hC).size h0, rfl, h2⟩⟩
      case behind =>
        intro vals w4 hC hv
        have h10 : vals 10 = .bool true := hv _ (.tail _ (.tail _ (.tail _ (.tail _ (.tail _ (.tail _ (.tail _ (.tail _ (.tail _ (.tail _ (.tail _ (.tail _ (.tail _ (.tail _ (.tail _ (.tail _ (.tail _ (.head _))))))))))))))))))
        have hol := o1.trans hC
        clear hC hv
        simp only [Ssa.putAll, List.map_cons, List.map_nil, List.foldl_cons, List.foldl_nil, List.setIfInBounds_toArray, List.set_cons_succ, List.set_cons_zero]
        rename_i K0 hK hw0
        refine hK _ w4 ?_
        clear hK
        rw [h10]
        go_wp2
        go_ret
        exact ⟨rfl, hol⟩
    · have hkl : k < n := by omega
      obtain ⟨b, off, x, rfl, Hx, hc0⟩ := HR.out.num (i := k) (by rw [HL.out]; exact hkl)
      have hc := o1.cell hc0
      have hki : (0 : Int) ≤ k := by omega
      have hki2 : (k : Int) < n := by omega
      clear hc0
      by_cases hx : x < 2305843009213693951
      · have d2 : decide ((2305843009213693951 : Int) ≤ x) = false := decide_eq_false (by omega)
        have FK := hide (fE_keep (E := E) Hx.out hx)
        clear hx
        go_wp2
        go_round
        case rel => exact ⟨k + 1, by omega, by go_num, by rw [FK.out]⟩
        case measure => simp [intOf]; omega
      · have d2 : decide ((2305843009213693951 : Int) ≤ x) = true := decide_eq_true (by omega)
        have FK := hide (fE_four (E := E) Hx.out hx)
        clear hx
        go_wp2
        go_round
        case rel => exact ⟨k + 1, by omega, by go_num, by rw [FK.out]; rfl⟩
        case measure => simp [intOf]; omega
end

theorem walk_SealLocks (v0 v1 v2 v3 v4 : Value) (w : World) (w0 : IsInt .u64 v0) (w1 : IsInt .u64 v1) (w2 : IsInt .i64 v2) (w3 : IsInt .i64 v3) (w4 : IsNums .u64 18446744073709551616 17592186043904 w v4) (qt : QTab w) :
    Calls Tryd.prog 3 #[v0, v1, v2, v3, v4] w fun e w' => e = .returned (.bool true) ∧ Old w w' := by
  obtain ⟨s, hs, rfl⟩ := sl64 w0
  obtain ⟨p, hp, rfl⟩ := sl64 w1
  obtain ⟨f, rfl⟩ := slI w2
  obtain ⟨t, rfl⟩ := slI w3
  obtain ⟨a, n, cap, xs, rfl, hl, hb, rd, hM, hcap⟩ := w4
  by_cases h1 : (donP f && donP t) = false ∨ 8 < n
  · exact locks_arg s p f t a n cap w h1 hs hp qt
  · have hd : (donP f && donP t) = true := by
      cases hh : (donP f && donP t)
      · exact absurd (.inl hh) h1
      · rfl
    have hn : n ≤ 8 := by
      have : ¬ 8 < n := fun h => h1 (.inr h)
      omega
    have ha := fun w => agree_any s p hp w
    cases hB : belowP xs
    · exact locks_no s p f t xs a n cap w hd hl hn rd hs hp qt 4 (by rw [fE_all _ _ hl, if_neg (by rw [hB]; decide)]) (by decide) (lock_range s p f t xs a n cap w hd hl hn hB rd)
    · by_cases hE : agE s p = 0
      · obtain ⟨f', rfl, -, hf⟩ := donP_nat (z := f) (by revert hd; cases donP f <;> simp)
        obtain ⟨t', rfl, -, ht⟩ := donP_nat (z := t) (by revert hd; cases donP t <;> simp)
        rw [hE] at ha
        exact locks_ok s p f' t' xs a n cap w hf ht hd hl hn hb rd hs hp qt (by rw [fE_all _ _ hl, if_pos hB, hE]) (lock_ok s p f' t' xs a n cap w hf ht hd hl hn hB hb rd (agN s p) (Nat.lt_trans (agN_lt s p) (by decide)) qt ha)
      · have hz : agN s p = 0 := by unfold agN; rw [if_neg hE]
        rw [hz] at ha
        have hE2 : ((agE s p : Int) != 0) = true := by rw [bne_iff_ne]; omega
        exact locks_no s p f t xs a n cap w hd hl hn rd hs hp qt (agE s p) (by rw [fE_all _ _ hl, if_pos hB]) hE2 (lock_agree s p f t xs a n cap w hd hl hn hB hb rd (agE s p) hE2 ha)
end Go.Proofs.YtdnnpomnjblaeaaDoor
