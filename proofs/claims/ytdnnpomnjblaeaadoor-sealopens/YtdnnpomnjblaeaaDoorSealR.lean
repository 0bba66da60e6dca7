/-
  The document's own calls for sealed shares (offertoryref16, offertoryref01): Secret, Good, Agree, Bytes, Hidden; and who of the statements.
-/
import Derived.Test.YtdnnpomnjblaeaaDoorSealD
import Derived.Test.YtdnnpomnjblaeaaDoorOwnB
import Derived.Test.YtdnnpomnjblaeaaDoorRef1
import Derived.Test.YtdnnpomnjblaeaaDoorRefDerive
namespace Go.Proofs.YtdnnpomnjblaeaaDoor
open Go.RowKit Cha Limb Sl M
set_option linter.unusedVariables false

theorem R1Secret_any (s : Nat) (w : World) :
    Calls Tryd.prog 20 #[.int .u64 s] w fun e w' => e = .returned (.bool (decide (1 ≤ s) && decide (s ≤ 2305843009213693949))) ∧ w' = w := by
  by_cases h1 : 1 ≤ s
  · have d1 : decide ((1 : Int) ≤ s) = true := decide_eq_true (by omega)
    have d2 : decide ((s : Int) ≤ 2305843009213693949) = decide (s ≤ 2305843009213693949) := by rw [decide_eq_decide]; omega
    rw [decide_eq_true h1, Bool.true_and, ← d2]
    clear h1 d2
    go_enter Tryd.func20, Tryd.ntmps20
    go_wp2
    go_ret
    exact ⟨rfl, rfl⟩
  · have d1 : decide ((1 : Int) ≤ s) = false := decide_eq_false (by omega)
    rw [decide_eq_false h1, Bool.false_and]
    clear h1
    go_enter Tryd.func20, Tryd.ntmps20
    go_wp2
    go_ret
    exact ⟨rfl, rfl⟩

theorem R1Good_any (p : Nat) (w : World) :
    Calls Tryd.prog 15 #[.int .u64 p] w fun e w' => e = .returned (.bool (goodP p)) ∧ w' = w := by
  unfold goodP
  by_cases h1 : 2 ≤ p
  · have d1 : decide ((2 : Int) ≤ p) = true := decide_eq_true (by omega)
    have d2 : decide ((p : Int) ≤ 2305843009213693949) = decide (p ≤ 2305843009213693949) := by rw [decide_eq_decide]; omega
    rw [decide_eq_true h1, Bool.true_and, ← d2]
    clear h1 d2
    go_enter Tryd.func15, Tryd.ntmps15
    go_wp2
    go_ret
    exact ⟨rfl, rfl⟩
  · have d1 : decide ((2 : Int) ≤ p) = false := decide_eq_false (by omega)
    rw [decide_eq_false h1, Bool.false_and]
    clear h1
    go_enter Tryd.func15, Tryd.ntmps15
    go_wp2
    go_ret
    exact ⟨rfl, rfl⟩

theorem refAgree16_any (s p : Nat) (hs : s < 18446744073709551616) (hp : p < 18446744073709551616) (w : World) :
    Calls Tryd.prog 7 #[.int .u64 s, .int .u64 p] w fun e w' => e = .returned (.tuple #[.int .u64 (agN s p), .int .i64 (agE s p)]) ∧ w' = w := by
  have C1 := hide (R1Secret_any s)
  have C2 := hide (R1Good_any p)
  have C3 := hide (R1.Pow_any p s hp hs)
  rcases agE_cases s p with ⟨h, h1, h2, h3⟩ | ⟨h, h1⟩ | ⟨h, h1, h2, h3⟩
  · rw [show agN s p = powP p s by unfold agN; rw [if_pos h], h]
    rw [decide_eq_true h1, decide_eq_true h2] at C1
    rw [h3] at C2
    clear h h1 h2 h3 hs hp
    go_enter Tryd.func7, Tryd.ntmps7
    go_wp2_with fail
    refine (C1.out _).mono ?_
    rintro e w1 ⟨rfl, rfl⟩
    rw [Bool.and_self]
    go_wp2_with fail
    refine (C2.out _).mono ?_
    rintro e w1 ⟨rfl, rfl⟩
    go_wp2_with fail
    refine (C3.out _).mono ?_
    rintro e w1 ⟨rfl, rfl⟩
    go_wp2
    go_ret2
    exact ⟨rfl, rfl⟩
  · rw [show agN s p = 0 by unfold agN; rw [if_neg (by rw [h]; omega)], h]
    have hb : (decide (1 ≤ s) && decide (s ≤ 2305843009213693949)) = false := by
      rcases h1 with h1 | h1
      · rw [decide_eq_false (by omega), Bool.false_and]
      · rw [decide_eq_false (p := s ≤ 2305843009213693949) (by omega), Bool.and_false]
    rw [hb] at C1
    clear h h1 hs hp hb
    go_enter Tryd.func7, Tryd.ntmps7
    go_wp2_with fail
    refine (C1.out _).mono ?_
    rintro e w1 ⟨rfl, rfl⟩
    go_wp2
    go_ret2
    exact ⟨rfl, rfl⟩
  · rw [show agN s p = 0 by unfold agN; rw [if_neg (by rw [h]; omega)], h]
    rw [decide_eq_true h1, decide_eq_true h2] at C1
    rw [h3] at C2
    clear h h1 h2 h3 hs hp
    go_enter Tryd.func7, Tryd.ntmps7
    go_wp2_with fail
    refine (C1.out _).mono ?_
    rintro e w1 ⟨rfl, rfl⟩
    rw [Bool.and_self]
    go_wp2_with fail
    refine (C2.out _).mono ?_
    rintro e w1 ⟨rfl, rfl⟩
    go_wp2
    go_ret2
    exact ⟨rfl, rfl⟩

theorem who_any (f t : Int) (w : World) :
    Calls Tryd.prog 8 #[.int .i64 f, .int .i64 t] w fun e w' => e = .returned (.bool (donP f && donP t)) ∧ w' = w := by
  by_cases h1 : 1 ≤ f
  · have d1 : decide (1 ≤ f) = true := decide_eq_true h1
    by_cases h2 : f ≤ 64
    · have d2 : decide (f ≤ 64) = true := decide_eq_true h2
      by_cases h3 : 1 ≤ t
      · have d3 : decide (1 ≤ t) = true := decide_eq_true h3
        rw [show (donP f && donP t) = decide (t ≤ 64) by simp [donP, h1, h2, h3]]
        clear h1 h2 h3
        go_enter Tryd.func8, Tryd.ntmps8
        go_wp2
        go_ret
        exact ⟨rfl, rfl⟩
      · have d3 : decide (1 ≤ t) = false := decide_eq_false h3
        rw [show (donP f && donP t) = false by simp [donP, h3]]
        clear h1 h2 h3
        go_enter Tryd.func8, Tryd.ntmps8
        go_wp2
        go_ret
        exact ⟨rfl, rfl⟩
    · have d2 : decide (f ≤ 64) = false := decide_eq_false h2
      rw [show (donP f && donP t) = false by simp [donP, h2]]
      clear h1 h2
      go_enter Tryd.func8, Tryd.ntmps8
      go_wp2
      go_ret
      exact ⟨rfl, rfl⟩
  · have d1 : decide (1 ≤ f) = false := decide_eq_false h1
    rw [show (donP f && donP t) = false by simp [donP, h1]]
    clear h1
    go_enter Tryd.func8, Tryd.ntmps8
    go_wp2
    go_ret
    exact ⟨rfl, rfl⟩

set_option maxHeartbeats 1000000 in
theorem Hidden_any (q f t : Nat) (hf : f ≤ 64) (ht : t ≤ 64) (hq : q < 18446744073709551616) (bs : List Nat) (a : Option Addr) (n cap : Nat) (hl : bs.length = n) (hn : n ≤ 1073741824) (hb : ∀ x ∈ bs, x < 256) (w : World) (rd : Rd w a (nums .u8 bs)) :
    Calls Tryd.prog 10 #[.int .u64 q, .int .i64 f, .int .i64 t, .slice a n cap] w fun e w' =>
      ∃ g, w.heap.size ≤ g ∧ e = .returned (.slice (some ⟨g, 0, none⟩) n n) ∧ Row w' g 5 (nums .u8 (hid q f t bs)) ∧ Old w w' := by
  have ht2 : tagN f t < 4294967296 := by unfold tagN; omega
  have C1 := hide (refDerive_any q hq 1 (by omega))
  have C2 := hide (refNonce_any (tagN f t) ht2)
  have C3 := hide (fun (w' : World) (o : Old w w') => refXor_own (derive q 1) (nonceOf (tagN f t)) bs 0 n (in_seed (derive_length _ _) (derive_lt _ _) _) a cap w' hl hn hb (rd.mono o))
  have VH : Hid (hid q f t bs = Cha.xor (derive q 1) 0 (nonceOf (tagN f t)) bs) := rfl
  rw [← VH.out] at C3
  generalize hid q f t bs = ys at *
  have ET : Hid (256 * (f : Int) + (t : Int) = (tagN f t : Nat)) := by show _ = _; unfold tagN; omega
  have f0 : (f : Int) ≤ 64 := by omega
  have t0 : (t : Int) ≤ 64 := by omega
  revert C1 C2 C3 VH ET
  generalize derive q 1 = de
  generalize nonceOf (tagN f t) = ns
  generalize tagN f t = tg
  intro C1 C2 C3 VH ET
  clear VH ht2 hl hn hb rd hq hf ht
  go_enter Tryd.func10, Tryd.ntmps10
  go_wp2_with fail
  refine (C1.out _).mono ?_
  rintro e w1 ⟨rfl, o1⟩
  clear C1
  go_wp2_with fail
  rw [ET.out]
  refine (C2.out _).mono ?_
  rintro e w2 ⟨rfl, o2⟩
  have O2 := o1.trans o2
  clear C2 o1 o2
  go_wp2_with fail
  refine (C3.out _ O2).mono ?_
  rintro e w3 ⟨g, g0, rfl, g1, o3⟩
  go_wp2
  go_ret
  exact ⟨g, Nat.le_trans O2.size g0, rfl, g1, O2.trans o3⟩

theorem grownB {a b c : World} {r : Option Nat} (h : Old a b) (hg : b.grownBy c r) (hb : ∀ g, r = some g → a.heap.size ≤ g) : Old a c := Below.grown h hg h.size hb

set_option maxHeartbeats 4000000 in
theorem refBytes16_any (xs : List Nat) (a : Option Addr) (n cap : Nat) (hl : xs.length = n) (hn : n ≤ 8) (hb : ∀ x ∈ xs, x < 18446744073709551616) (w : World) (rd : Rd w a (nums .u64 xs)) :
    Calls Tryd.prog 11 #[.slice a n cap] w fun e w' => ∃ b c, e = .returned (.slice b (8 * n) c) ∧ Rd w' b (nums .u8 (wr8 xs)) ∧ Old w w' := by
  have HL := hide hl
  have HB := hide hb
  have WL : Hid ((wr8 xs).length = 8 * n) := by show _ = _; rw [wr8_length, hl]
  have W0 : Hid (OwnsB (w.alloc (.cells #[] 5)) w.heap.size (.slice (some ⟨w.heap.size, 0, none⟩) 0 0) ((wr8 xs).take (8 * 0)) ∧ Old w (w.alloc (.cells #[] 5))) := ⟨OwnsB.empty w _ (Nat.le_refl _), Old.of_alloc _ _⟩
  clear hl hb
  go_enter Tryd.func11, Tryd.ntmps11
  go_wp2_with fail
  generalize hbase : w.heap.size = base at *
  have HBS := hide hbase
  clear hbase
  go_loopw [3, 4] (fun v vi wr => ∃ k : Nat, k ≤ n ∧ vi = .int .i64 (k : Nat) ∧ Hid (OwnsB wr base v ((wr8 xs).take (8 * k)) ∧ Old w wr)) (fun _ vi _ => (n - intOf vi).toNat)
  case atStart => exact ⟨0, by omega, rfl, W0⟩
  case round =>
    clear W0
    obtain ⟨k, hk, rfl, R⟩ := hrel
    by_cases hkn : k = n
    · subst hkn
      obtain ⟨b, c, hv, -, hr⟩ := R.out.1.rd
      rw [List.take_of_length_le (by rw [WL.out]; exact Nat.le_refl _)] at hv hr
      rw [WL.out] at hv
      subst hv
      go_wp2
      go_ret
      exact ⟨b, c, rfl, hr, R.out.2⟩
    · have hkl : k < n := by omega
      obtain ⟨b, off, x, rfl, Hx, hc0⟩ := rd.num (i := k) (by rw [HL.out]; exact hkl)
      have HC := hide hc0
      have hki : (0 : Int) ≤ k := by omega
      have hki2 : (k : Int) < n := by omega
      clear hc0
      go_wp2_with fail
      go_loopw [3, 5] (fun v vi wr => ∃ j : Nat, j ≤ 8 ∧ vi = .int .i64 (j : Nat) ∧ Hid (OwnsB wr base v ((wr8 xs).take (8 * k + j)) ∧ Old w wr)) (fun _ vi _ => (8 - intOf vi).toNat)
      case atStart => exact ⟨0, by omega, rfl, R⟩
      case round =>
        clear R
        obtain ⟨j, hj, rfl, R⟩ := hrel
        by_cases hj8 : j = 8
        · subst hj8
          rw [show ((8 : Nat) : Int) = 8 from rfl]
          go_wp2
          go_roundw
          case rel => exact ⟨k + 1, by omega, by go_num, by rw [show 8 * (k + 1) = 8 * k + 8 by omega]; exact R⟩
          case measure => simp [intOf]; omega
        · have hjl : j < 8 := by omega
          have hji : (0 : Int) ≤ j := by omega
          have hji2 : (j : Int) < 8 := by omega
          have hc := R.out.2.cell HC.out
          have E : Hid ((x : Int) / 2 ^ (8 * j) % 256 = ((wB xs (8 * k + j) : Nat) : Int)) := by
            have h := shr8 (wB_eq (xs := xs) (i := 8 * k + j) (x := x) (by rw [show (8 * k + j) / 8 = k by omega]; exact Hx.out))
            rw [show (8 * k + j) % 8 = j by omega] at h
            exact h
          have TK : Hid ((wr8 xs).take (8 * k + j) ++ [wB xs (8 * k + j)] = (wr8 xs).take (8 * k + (j + 1))) := by
            show _ = _
            rw [← Nat.add_assoc, List.take_add_one, wr8_get xs (by rw [HL.out]; omega)]
            rfl
          have OW1 := hide (R.out.1.mono (Old.of_alloc wr (.cells #[.int .u8 ((x : Int) / 2 ^ (8 * j) % 256)] 5)))
          have RD1 : Hid (Rd (wr.alloc (.cells #[.int .u8 ((x : Int) / 2 ^ (8 * j) % 256)] 5)) (some ⟨wr.heap.size, 0, none⟩) (nums .u8 [wB xs (8 * k + j)])) := rd_new rfl (by rw [E.out]; rfl)
          have HN : ((wr8 xs).take (8 * k + j)).length + 1 < 1099511627776 := by
            rw [List.length_take, WL.out]
            omega
          have HS : base ≤ (wr.alloc (.cells #[.int .u8 ((x : Int) / 2 ^ (8 * j) % 256)] 5)).heap.size := by
            rw [← HBS.out]
            exact (R.out.2.alloc _).size
          have O2 := hide (R.out.2.alloc (.cells #[.int .u8 ((x : Int) / 2 ^ (8 * j) % 256)] 5))
          have HN2 := hide HN
          have HS2 := hide HS
          clear HN HS
          go_wp2_with (refine wp_appendB rfl _ _ rfl base _ ((wr8 xs).take (8 * k + j)) rfl OW1.out (some ⟨wr.heap.size, 0, none⟩) 1 1 [wB xs (8 * k + j)] rfl rfl RD1.out HN2.out HS2.out ?_; rintro v2 w2 ow gr -)
          have R2 : Hid (OwnsB w2 base v2 ((wr8 xs).take (8 * k + (j + 1))) ∧ Old w w2) := ⟨by rw [← TK.out]; exact ow, grownB O2.out gr fun g e => by rw [HBS.out]; exact (OW1.out.lt e).1⟩
          clear ow gr OW1 RD1 O2 HN2 HS2 E TK R
          go_roundw
          case rel => exact ⟨j + 1, by omega, by go_num, R2⟩
          case measure => simp [intOf]; omega
end Go.Proofs.YtdnnpomnjblaeaaDoor
