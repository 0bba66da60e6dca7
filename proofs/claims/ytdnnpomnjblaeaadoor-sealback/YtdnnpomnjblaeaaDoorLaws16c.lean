/-
  Layer 16's statement SealOpens.
-/
import Derived.Test.YtdnnpomnjblaeaaDoorLaws16b
import Derived.Test.YtdnnpomnjblaeaaDoorOwnN
namespace Go.Proofs.YtdnnpomnjblaeaaDoor
open Go.RowKit Cha Limb Sl M
set_option linter.unusedVariables false

/-- The value of a row's bytes from place c on. -/
def xv (ys : List Nat) (j c : Nat) : Nat := leN ((ys.drop (8 * j + c)).take (8 - c))
theorem xv_start (ys : List Nat) (j : Nat) : xv ys j 8 = 0 := by simp [xv, leN]
theorem xv_step {ys : List Nat} {j c b : Nat} (hc : c < 8) (hb : ys[8 * j + c]? = some b) : xv ys j c = b + 256 * xv ys j (c + 1) := by
  have hl : 8 * j + c < ys.length := (List.getElem?_eq_some_iff.1 hb).1
  have hg : ys[8 * j + c] = b := (List.getElem?_eq_some_iff.1 hb).2
  unfold xv
  rw [List.drop_eq_getElem_cons hl, hg, show 8 - c = (8 - (c + 1)) + 1 by omega, List.take_succ_cons, leN, Nat.add_assoc]
theorem xv_lt {ys : List Nat} (hy : ∀ b ∈ ys, b < 256) (j c : Nat) : xv ys j (c + 1) < 72057594037927936 := by
  have h := leN_lt (l := (ys.drop (8 * j + (c + 1))).take (8 - (c + 1))) fun b hx => hy b (List.mem_of_mem_drop (List.mem_of_mem_take hx))
  have hl : ((ys.drop (8 * j + (c + 1))).take (8 - (c + 1))).length ≤ 7 := by rw [List.length_take]; omega
  have := Nat.pow_le_pow_right (show 0 < 256 by omega) hl
  exact Nat.lt_of_lt_of_le h (by simpa using this)
theorem xv_end {ys : List Nat} {j : Nat} (hj : j < ys.length / 8) : (rd8 ys)[j]? = some (xv ys j 0) := rd8_get ys hj
theorem shl8_or {x b : Nat} (hx : x < 72057594037927936) (hb : b < 256) : bits .or .u64 ((x : Int) * 256) (b : Int) = ((b + 256 * x : Nat) : Int) := by
  have e : (x : Int) * 256 = ((256 * x : Nat) : Int) := by omega
  have h1 : 256 * x < 256 * 72057594037927936 := Nat.mul_lt_mul_of_pos_left hx (by decide)
  rw [e, bits_or_u64_nat (256 * x) b h1 (Nat.lt_trans hb (by decide))]
  have := Nat.shiftLeft_add_eq_or_of_lt (i := 8) hb x
  rw [Nat.shiftLeft_eq, Nat.mul_comm x] at this
  rw [← this, Nat.add_comm]
theorem below_next {zs : List Nat} {j z : Nat} (hz : zs[j]? = some z) : belowP (zs.take (j + 1)) = (belowP (zs.take j) && decide (z < 2305843009213693951)) := by
  unfold belowP
  rw [List.take_add_one, hz, List.all_append]
  simp

section
variable (s p : Nat) (f t : Int) (bs : List Nat) (a : Option Addr) (n cap : Nat) (w : World)

set_option maxHeartbeats 1000000 in
theorem opens_arg (h : (donP f && donP t) = false) (hs : s < 18446744073709551616) (hp : p < 18446744073709551616) (qt : QTab w) (hM : n ≤ 140737488351232)
    (C1 : Hid (Calls Tryd.prog 12 #[.int .u64 s, .int .u64 p, .int .i64 f, .int .i64 t, .slice a n cap] w fun e w' => e = .returned (.tuple #[.slice none 0 0, .int .i64 1]) ∧ Old w w')) :
    Calls Tryd.prog 4 #[.int .u64 s, .int .u64 p, .int .i64 f, .int .i64 t, .slice a n cap] w fun e w' => e = .returned (.bool true) ∧ Old w w' := by
  have HQ := hide qt
  have C2 := hide (refAgree16_any s p hs hp)
  have C3 := hide (who_any f t)
  rw [h] at C3
  have n0 : (n : Int) ≤ 140737488351232 := by omega
  generalize agN s p = N at C2
  generalize agE s p = E at C2
  clear h qt hs hp
  go_enter Tryd.func4, Tryd.ntmps4
  go_wp2_with fail
  refine C1.out.mono ?_
  rintro e w1 ⟨rfl, o1⟩
  clear C1
  go_wp2_with fail
  refine (C2.out _).mono ?_
  rintro e w2 ⟨rfl, rfl⟩
  clear C2
  go_wp2_with fail
  refine (C3.out _).mono ?_
  rintro e w3 ⟨rfl, rfl⟩
  clear C3
  go_wp2_with fail
  refine (awake16 _ (HQ.out.mono o1)).mono ?_
  rintro e w4 ⟨rfl, o4⟩
  go_wp2
  go_ret
  exact ⟨by first | rfl | simp, o1.trans o4⟩

set_option maxHeartbeats 1000000 in
theorem opens_form1 (h : (donP f && donP t) = true) (h8 : n % 8 ≠ 0) (hs : s < 18446744073709551616) (hp : p < 18446744073709551616) (qt : QTab w) (hM : n ≤ 140737488351232)
    (C1 : Hid (Calls Tryd.prog 12 #[.int .u64 s, .int .u64 p, .int .i64 f, .int .i64 t, .slice a n cap] w fun e w' => e = .returned (.tuple #[.slice none 0 0, .int .i64 2]) ∧ Old w w')) :
    Calls Tryd.prog 4 #[.int .u64 s, .int .u64 p, .int .i64 f, .int .i64 t, .slice a n cap] w fun e w' => e = .returned (.bool true) ∧ Old w w' := by
  have HQ := hide qt
  have C2 := hide (refAgree16_any s p hs hp)
  have C3 := hide (who_any f t)
  rw [h] at C3
  have n0 : (n : Int) ≤ 140737488351232 := by omega
  generalize agN s p = N at C2
  generalize agE s p = E at C2
  have d1 : ((n : Int) % 8 != 0) = true := by rw [bne_iff_ne]; omega
  clear h8
  clear h qt hs hp
  go_enter Tryd.func4, Tryd.ntmps4
  go_wp2_with fail
  refine C1.out.mono ?_
  rintro e w1 ⟨rfl, o1⟩
  clear C1
  go_wp2_with fail
  refine (C2.out _).mono ?_
  rintro e w2 ⟨rfl, rfl⟩
  clear C2
  go_wp2_with fail
  refine (C3.out _).mono ?_
  rintro e w3 ⟨rfl, rfl⟩
  clear C3
  go_wp2_with fail
  refine (awake16 _ (HQ.out.mono o1)).mono ?_
  rintro e w4 ⟨rfl, o4⟩
  go_wp2
  go_ret
  exact ⟨by first | rfl | simp, o1.trans o4⟩

set_option maxHeartbeats 1000000 in
theorem opens_form2 (h : (donP f && donP t) = true) (h8 : n % 8 = 0) (hn : 64 < n) (hs : s < 18446744073709551616) (hp : p < 18446744073709551616) (qt : QTab w) (hM : n ≤ 140737488351232)
    (C1 : Hid (Calls Tryd.prog 12 #[.int .u64 s, .int .u64 p, .int .i64 f, .int .i64 t, .slice a n cap] w fun e w' => e = .returned (.tuple #[.slice none 0 0, .int .i64 2]) ∧ Old w w')) :
    Calls Tryd.prog 4 #[.int .u64 s, .int .u64 p, .int .i64 f, .int .i64 t, .slice a n cap] w fun e w' => e = .returned (.bool true) ∧ Old w w' := by
  have HQ := hide qt
  have C2 := hide (refAgree16_any s p hs hp)
  have C3 := hide (who_any f t)
  rw [h] at C3
  have n0 : (n : Int) ≤ 140737488351232 := by omega
  generalize agN s p = N at C2
  generalize agE s p = E at C2
  have d1 : ((n : Int) % 8 != 0) = false := by rw [bne_eq_false_iff_eq]; omega
  have d2 : decide ((64 : Int) < n) = true := decide_eq_true (by omega)
  clear h8 hn
  clear h qt hs hp
  go_enter Tryd.func4, Tryd.ntmps4
  go_wp2_with fail
  refine C1.out.mono ?_
  rintro e w1 ⟨rfl, o1⟩
  clear C1
  go_wp2_with fail
  refine (C2.out _).mono ?_
  rintro e w2 ⟨rfl, rfl⟩
  clear C2
  go_wp2_with fail
  refine (C3.out _).mono ?_
  rintro e w3 ⟨rfl, rfl⟩
  clear C3
  go_wp2_with fail
  refine (awake16 _ (HQ.out.mono o1)).mono ?_
  rintro e w4 ⟨rfl, o4⟩
  go_wp2
  go_ret
  exact ⟨by first | rfl | simp, o1.trans o4⟩

set_option maxHeartbeats 1000000 in
theorem opens_agree (h : (donP f && donP t) = true) (h8 : n % 8 = 0) (hn : n ≤ 64) (G : Nat) (hG : agE s p = G) (hG0 : ((G : Int) != 0) = true) (hs : s < 18446744073709551616) (hp : p < 18446744073709551616) (qt : QTab w) (hM : n ≤ 140737488351232)
    (C1 : Hid (Calls Tryd.prog 12 #[.int .u64 s, .int .u64 p, .int .i64 f, .int .i64 t, .slice a n cap] w fun e w' => e = .returned (.tuple #[.slice none 0 0, .int .i64 G]) ∧ Old w w')) :
    Calls Tryd.prog 4 #[.int .u64 s, .int .u64 p, .int .i64 f, .int .i64 t, .slice a n cap] w fun e w' => e = .returned (.bool true) ∧ Old w w' := by
  have HQ := hide qt
  have C2 := hide (refAgree16_any s p hs hp)
  have C3 := hide (who_any f t)
  rw [h] at C3
  have n0 : (n : Int) ≤ 140737488351232 := by omega
  rw [hG] at C2
  clear hG
  generalize agN s p = N at C2
  have d1 : ((n : Int) % 8 != 0) = false := by rw [bne_eq_false_iff_eq]; omega
  have d2 : decide ((64 : Int) < n) = false := decide_eq_false (by omega)
  clear h8 hn
  clear h qt hs hp
  go_enter Tryd.func4, Tryd.ntmps4
  go_wp2_with fail
  refine C1.out.mono ?_
  rintro e w1 ⟨rfl, o1⟩
  clear C1
  go_wp2_with fail
  refine (C2.out _).mono ?_
  rintro e w2 ⟨rfl, rfl⟩
  clear C2
  go_wp2_with fail
  refine (C3.out _).mono ?_
  rintro e w3 ⟨rfl, rfl⟩
  clear C3
  go_wp2_with fail
  refine (awake16 _ (HQ.out.mono o1)).mono ?_
  rintro e w4 ⟨rfl, o4⟩
  go_wp2
  go_ret
  exact ⟨by first | rfl | simp, o1.trans o4⟩

end

section
variable (s p f t : Nat) (bs : List Nat) (a : Option Addr) (n m cap : Nat) (w : World)

set_option maxHeartbeats 4000000 in
theorem opens_fine (hf : f ≤ 64) (ht : t ≤ 64) (h : (donP f && donP t) = true) (hl : bs.length = n) (hm : n = 8 * m) (hm8 : m ≤ 8) (hb : ∀ x ∈ bs, x < 256) (rd : Rd w a (nums .u8 bs)) (hs : s < 18446744073709551616) (hp : p < 18446744073709551616) (qt : QTab w) (hE : agE s p = 0) (hZ : belowP (rd8 (hid (agN s p) f t bs)) = true)
    (C1 : Hid (Calls Tryd.prog 12 #[.int .u64 s, .int .u64 p, .int .i64 f, .int .i64 t, .slice a n cap] w fun e w' => ∃ g, w.heap.size ≤ g ∧ e = .returned (.tuple #[.slice (some ⟨g, 0, none⟩) m m, .int .i64 0]) ∧ Row w' g 22 (nums .u64 (rd8 (hid (agN s p) f t bs))) ∧ Old w w')) :
    Calls Tryd.prog 4 #[.int .u64 s, .int .u64 p, .int .i64 f, .int .i64 t, .slice a n cap] w fun e w' => e = .returned (.bool true) ∧ Old w w' := by
  have HQ := hide qt
  have C2 := hide (refAgree16_any s p hs hp)
  rw [hE] at C2
  have C3 := hide (who_any f t)
  rw [h] at C3
  have d1 : ((n : Int) % 8 != 0) = false := by rw [bne_eq_false_iff_eq]; omega
  have d2 : decide ((64 : Int) < n) = false := decide_eq_false (by omega)
  have NL := Nat.lt_trans (agN_lt s p) (show 2305843009213693951 < 18446744073709551616 by decide)
  have C6 := hide (fun (w' : World) (o : Old w w') => Hidden_any (agN s p) f t hf ht NL bs a n cap hl (by omega) hb w' (rd.mono o))
  have YL : Hid ((hid (agN s p) f t bs).length = n) := by show _ = _; rw [hid_length, hl]
  have YB := hide (hid_lt (agN s p) f t hb)
  have HZ := hide hZ
  have HM := hide hm
  have n0 : n ≤ 64 := by omega
  clear NL hE hZ hb hl rd hs hp hf ht h qt hm
  generalize agN s p = N at *
  generalize hid N f t bs = ys at *
  have ZL : Hid ((rd8 ys).length = m) := by show _ = _; rw [rd8_length, YL.out, HM.out]; omega
  go_enter Tryd.func4, Tryd.ntmps4
  go_wp2_with fail
  refine C1.out.mono ?_
  rintro e w1 ⟨g, -, rfl, RG, o1⟩
  clear C1
  go_wp2_with fail
  refine (C2.out _).mono ?_
  rintro e w2 ⟨rfl, rfl⟩
  clear C2
  go_wp2_with fail
  refine (C3.out _).mono ?_
  rintro e w3 ⟨rfl, rfl⟩
  clear C3
  go_wp2_with fail
  refine (C6.out _ o1).mono ?_
  rintro e w4 ⟨gy, -, rfl, RY, o4⟩
  have RG4 := RG.mono o4
  clear RG
  have O4 := o1.trans o4
  clear o1 o4 C6
  go_wp2_with fail
  have W0 : Hid (Owns (w4.alloc (.cells #[] 22)) w4.heap.size 22 .u64 (.slice (some ⟨w4.heap.size, 0, none⟩) 0 0) ((rd8 ys).take 0) ∧ Old w4 (w4.alloc (.cells #[] 22))) := ⟨Owns.empty w4 _ _ _ (Nat.le_refl _), Old.of_alloc _ _⟩
  go_loopw [16, 17, 18] (fun v vl vi wr => ∃ j : Nat, j ≤ m ∧ vi = .int .i64 ((8 * j : Nat) : Int) ∧ vl = .bool (!belowP ((rd8 ys).take j)) ∧ Hid (Owns wr w4.heap.size 22 .u64 v ((rd8 ys).take j) ∧ Old w4 wr)) (fun _ _ vi _ => (n - intOf vi).toNat)
  case atStart => exact ⟨0, by omega, rfl, rfl, W0⟩
  case round =>
    clear W0
    obtain ⟨j, hj, rfl, rfl, R⟩ := hrel
    by_cases hjm : j = m
    · subst hjm
      have TA : Hid ((rd8 ys).take j = rd8 ys) := List.take_of_length_le (by rw [ZL.out]; exact Nat.le_refl _)
      rw [TA.out, HZ.out]
      obtain ⟨b, c, hv, -, hr⟩ := R.out.1.rd
      rw [TA.out] at hv hr
      rw [ZL.out] at hv
      subst hv
      have dn : decide (8 * (j : Int) < n) = false := decide_eq_false (by have := HM.out; omega)
      have O5 := O4.trans R.out.2
      have RG5 := RG4.mono R.out.2
      clear R TA RY RG4
      go_wp2_with fail
      refine (awake16 _ (HQ.out.mono O5)).mono ?_
      rintro e w6 ⟨rfl, o6⟩
      have SM := hide (R1.Same_any j j (rd8 ys) (rd8 ys) (some ⟨g, 0, none⟩) b j c w6 (by omega) ZL.out ZL.out (RG5.mono o6).rd (hr.mono o6))
      rw [decide_eq_true rfl] at SM
      clear RG5 hr
      go_wp2_with fail
      refine SM.out.mono ?_
      rintro e w7 ⟨rfl, o7⟩
      go_wp2
      go_ret
      exact ⟨by first | rfl | simp, (O5.trans o6).trans o7⟩
    · have hjl : j < m := by omega
      have dn : decide (8 * (j : Int) < n) = true := decide_eq_true (by have := HM.out; omega)
      have j8 : 8 * j + 8 ≤ n := by have := HM.out; omega
      go_wp2_with fail
      go_loopw [19, 20] (fun vx vi wr => ∃ c : Nat, c ≤ 8 ∧ vi = .int .i64 ((c : Int) - 1) ∧ vx = .int .u64 (xv ys j c : Nat) ∧ Hid (Owns wr w4.heap.size 22 .u64 u16 ((rd8 ys).take j) ∧ Old w4 wr)) (fun _ vi _ => (1 + intOf vi).toNat)
      case atStart => exact ⟨8, by omega, rfl, by rw [xv_start]; rfl, R⟩
      case round =>
        clear R
        obtain ⟨c, hc, rfl, rfl, R⟩ := hrel
        by_cases hc0 : c = 0
        · subst hc0
          have ze := xv_end (ys := ys) (j := j) (by rw [YL.out, HM.out]; omega)
          have BN := hide (below_next ze)
          have TK : Hid ((rd8 ys).take j ++ [xv ys j 0] = (rd8 ys).take (j + 1)) := by
            show _ = _
            rw [List.take_add_one, ze]
            rfl
          clear ze
          generalize xv ys j 0 = x at *
          have OW1 := hide (R.out.1.mono (Old.of_alloc wr (.cells #[.int .u64 (x : Nat)] 22)))
          have CY : Hid ((wr.alloc (.cells #[.int .u64 (x : Nat)] 22)).cell? ⟨wr.heap.size, 0, none⟩ = some (.int .u64 (x : Nat))) := (Row.new wr 22 [.int .u64 (x : Nat)]).cell (i := 0) rfl
          have HN : Hid (((rd8 ys).take j).length < 1099511627776) := by
            show _ < _
            rw [List.length_take, ZL.out]
            omega
          have HS : Hid (w4.heap.size ≤ (wr.alloc (.cells #[.int .u64 (x : Nat)] 22)).heap.size) := (R.out.2.alloc _).size
          have OB : Hid (∀ (v : Value) (w2 : World), (wr.alloc (.cells #[.int .u64 (x : Nat)] 22)).grownBy w2 v.ownBlock → Owns (wr.alloc (.cells #[.int .u64 (x : Nat)] 22)) w4.heap.size 22 .u64 v ((rd8 ys).take j) → Old w4 w2) := fun v w2 gr ow => (R.out.2.alloc _).grown' gr fun g e => (ow.lt e).1
          cases hB : belowP ((rd8 ys).take j)
          · rw [hB] at BN
            go_wp2_with (refine wp_append1 rfl _ _ 23 rfl w4.heap.size 22 .u64 8 Tryd.underlying23 (by kernel_rfl) (by omega) _ ((rd8 ys).take j) rfl OW1.out wr.heap.size 1 x rfl CY.out HN.out HS.out ?_; rintro v2 w2 ow gr)
            have R2 : Hid (Owns w2 w4.heap.size 22 .u64 v2 ((rd8 ys).take (j + 1)) ∧ Old w4 w2) := ⟨by rw [← TK.out]; exact ow, OB.out _ _ gr OW1.out⟩
            clear ow gr OW1 CY HN HS TK R OB
            go_roundw
            case rel => exact ⟨j + 1, by omega, by go_num, by rw [BN.out]; rfl, R2⟩
            case measure => simp [intOf]; omega
          · rw [hB] at BN
            by_cases hx : x < 2305843009213693951
            · have d3 : decide ((2305843009213693951 : Int) ≤ x) = false := decide_eq_false (by omega)
              rw [decide_eq_true hx] at BN
              clear hx
              go_wp2_with (refine wp_append1 rfl _ _ 23 rfl w4.heap.size 22 .u64 8 Tryd.underlying23 (by kernel_rfl) (by omega) _ ((rd8 ys).take j) rfl OW1.out wr.heap.size 1 x rfl CY.out HN.out HS.out ?_; rintro v2 w2 ow gr)
              have R2 : Hid (Owns w2 w4.heap.size 22 .u64 v2 ((rd8 ys).take (j + 1)) ∧ Old w4 w2) := ⟨by rw [← TK.out]; exact ow, OB.out _ _ gr OW1.out⟩
              clear ow gr OW1 CY HN HS TK R OB
              go_roundw
              case rel => exact ⟨j + 1, by omega, by go_num, by rw [BN.out]; rfl, R2⟩
              case measure => simp [intOf]; omega
            · have d3 : decide ((2305843009213693951 : Int) ≤ x) = true := decide_eq_true (by omega)
              rw [decide_eq_false hx] at BN
              clear hx
              go_wp2_with (refine wp_append1 rfl _ _ 23 rfl w4.heap.size 22 .u64 8 Tryd.underlying23 (by kernel_rfl) (by omega) _ ((rd8 ys).take j) rfl OW1.out wr.heap.size 1 x rfl CY.out HN.out HS.out ?_; rintro v2 w2 ow gr)
              have R2 : Hid (Owns w2 w4.heap.size 22 .u64 v2 ((rd8 ys).take (j + 1)) ∧ Old w4 w2) := ⟨by rw [← TK.out]; exact ow, OB.out _ _ gr OW1.out⟩
              clear ow gr OW1 CY HN HS TK R OB
              go_roundw
              case rel => exact ⟨j + 1, by omega, by go_num, by rw [BN.out]; rfl, R2⟩
              case measure => simp [intOf]; omega
        · obtain ⟨c, rfl⟩ : ∃ c', c = c' + 1 := ⟨c - 1, by omega⟩
          have hc8 : c < 8 := by omega
          have e1 : (((c + 1 : Nat) : Int) - 1) = (c : Int) := by omega
          obtain ⟨b, Hb, cb⟩ := (RY.mono R.out.2).num (i := 8 * j + c) (by rw [YL.out]; omega)
          have lb := YB.out b (List.mem_of_getElem? Hb.out)
          have ST := hide (xv_step hc8 Hb.out)
          have lx := xv_lt YB.out j c
          have E2 := hide (shl8_or lx lb)
          have c0 : (0 : Int) ≤ (c : Int) := by omega
          have c1 : (0 : Int) ≤ 8 * (j : Int) + (c : Int) := by omega
          have c2 : 8 * (j : Int) + (c : Int) < n := by omega
          rw [e1]
          go_wp2
          go_roundw
          case rel => exact ⟨c, by omega, by go_num, by rw [ST.out, E2.out], R⟩
          case measure => simp [intOf]; omega

set_option maxHeartbeats 4000000 in
theorem opens_large (hf : f ≤ 64) (ht : t ≤ 64) (h : (donP f && donP t) = true) (hl : bs.length = n) (hm : n = 8 * m) (hm8 : m ≤ 8) (hb : ∀ x ∈ bs, x < 256) (rd : Rd w a (nums .u8 bs)) (hs : s < 18446744073709551616) (hp : p < 18446744073709551616) (qt : QTab w) (hE : agE s p = 0) (hZ : belowP (rd8 (hid (agN s p) f t bs)) = false)
    (C1 : Hid (Calls Tryd.prog 12 #[.int .u64 s, .int .u64 p, .int .i64 f, .int .i64 t, .slice a n cap] w fun e w' => e = .returned (.tuple #[.slice none 0 0, .int .i64 4]) ∧ Old w w')) :
    Calls Tryd.prog 4 #[.int .u64 s, .int .u64 p, .int .i64 f, .int .i64 t, .slice a n cap] w fun e w' => e = .returned (.bool true) ∧ Old w w' := by
  have HQ := hide qt
  have C2 := hide (refAgree16_any s p hs hp)
  rw [hE] at C2
  have C3 := hide (who_any f t)
  rw [h] at C3
  have d1 : ((n : Int) % 8 != 0) = false := by rw [bne_eq_false_iff_eq]; omega
  have d2 : decide ((64 : Int) < n) = false := decide_eq_false (by omega)
  have NL := Nat.lt_trans (agN_lt s p) (show 2305843009213693951 < 18446744073709551616 by decide)
  have C6 := hide (fun (w' : World) (o : Old w w') => Hidden_any (agN s p) f t hf ht NL bs a n cap hl (by omega) hb w' (rd.mono o))
  have YL : Hid ((hid (agN s p) f t bs).length = n) := by show _ = _; rw [hid_length, hl]
  have YB := hide (hid_lt (agN s p) f t hb)
  have HZ := hide hZ
  have HM := hide hm
  have n0 : n ≤ 64 := by omega
  clear NL hE hZ hb hl rd hs hp hf ht h qt hm
  generalize agN s p = N at *
  generalize hid N f t bs = ys at *
  have ZL : Hid ((rd8 ys).length = m) := by show _ = _; rw [rd8_length, YL.out, HM.out]; omega
  go_enter Tryd.func4, Tryd.ntmps4
  go_wp2_with fail
  refine C1.out.mono ?_
  rintro e w1 ⟨rfl, o1⟩
  clear C1
  go_wp2_with fail
  refine (C2.out _).mono ?_
  rintro e w2 ⟨rfl, rfl⟩
  clear C2
  go_wp2_with fail
  refine (C3.out _).mono ?_
  rintro e w3 ⟨rfl, rfl⟩
  clear C3
  go_wp2_with fail
  refine (C6.out _ o1).mono ?_
  rintro e w4 ⟨gy, -, rfl, RY, o4⟩
  have O4 := o1.trans o4
  clear o1 o4 C6
  go_wp2_with fail
  have W0 : Hid (Owns (w4.alloc (.cells #[] 22)) w4.heap.size 22 .u64 (.slice (some ⟨w4.heap.size, 0, none⟩) 0 0) ((rd8 ys).take 0) ∧ Old w4 (w4.alloc (.cells #[] 22))) := ⟨Owns.empty w4 _ _ _ (Nat.le_refl _), Old.of_alloc _ _⟩
  go_loopw [16, 17, 18] (fun v vl vi wr => ∃ j : Nat, j ≤ m ∧ vi = .int .i64 ((8 * j : Nat) : Int) ∧ vl = .bool (!belowP ((rd8 ys).take j)) ∧ Hid (Owns wr w4.heap.size 22 .u64 v ((rd8 ys).take j) ∧ Old w4 wr)) (fun _ _ vi _ => (n - intOf vi).toNat)
  case atStart => exact ⟨0, by omega, rfl, rfl, W0⟩
  case round =>
    clear W0
    obtain ⟨j, hj, rfl, rfl, R⟩ := hrel
    by_cases hjm : j = m
    · subst hjm
      have TA : Hid ((rd8 ys).take j = rd8 ys) := List.take_of_length_le (by rw [ZL.out]; exact Nat.le_refl _)
      rw [TA.out, HZ.out]
      obtain ⟨b, c, hv, -, hr⟩ := R.out.1.rd
      rw [TA.out] at hv hr
      rw [ZL.out] at hv
      subst hv
      have dn : decide (8 * (j : Int) < n) = false := decide_eq_false (by have := HM.out; omega)
      have O5 := O4.trans R.out.2
      clear R TA hr RY
      go_wp2_with fail
      refine (awake16 _ (HQ.out.mono O5)).mono ?_
      rintro e w6 ⟨rfl, o6⟩
      go_wp2
      go_ret
      exact ⟨by first | rfl | simp, O5.trans o6⟩
    · have hjl : j < m := by omega
      have dn : decide (8 * (j : Int) < n) = true := decide_eq_true (by have := HM.out; omega)
      have j8 : 8 * j + 8 ≤ n := by have := HM.out; omega
      go_wp2_with fail
      go_loopw [19, 20] (fun vx vi wr => ∃ c : Nat, c ≤ 8 ∧ vi = .int .i64 ((c : Int) - 1) ∧ vx = .int .u64 (xv ys j c : Nat) ∧ Hid (Owns wr w4.heap.size 22 .u64 u16 ((rd8 ys).take j) ∧ Old w4 wr)) (fun _ vi _ => (1 + intOf vi).toNat)
      case atStart => exact ⟨8, by omega, rfl, by rw [xv_start]; rfl, R⟩
      case round =>
        clear R
        obtain ⟨c, hc, rfl, rfl, R⟩ := hrel
        by_cases hc0 : c = 0
        · subst hc0
          have ze := xv_end (ys := ys) (j := j) (by rw [YL.out, HM.out]; omega)
          have BN := hide (below_next ze)
          have TK : Hid ((rd8 ys).take j ++ [xv ys j 0] = (rd8 ys).take (j + 1)) := by
            show _ = _
            rw [List.take_add_one, ze]
            rfl
          clear ze
          generalize xv ys j 0 = x at *
          have OW1 := hide (R.out.1.mono (Old.of_alloc wr (.cells #[.int .u64 (x : Nat)] 22)))
          have CY : Hid ((wr.alloc (.cells #[.int .u64 (x : Nat)] 22)).cell? ⟨wr.heap.size, 0, none⟩ = some (.int .u64 (x : Nat))) := (Row.new wr 22 [.int .u64 (x : Nat)]).cell (i := 0) rfl
          have HN : Hid (((rd8 ys).take j).length < 1099511627776) := by
            show _ < _
            rw [List.length_take, ZL.out]
            omega
          have HS : Hid (w4.heap.size ≤ (wr.alloc (.cells #[.int .u64 (x : Nat)] 22)).heap.size) := (R.out.2.alloc _).size
          have OB : Hid (∀ (v : Value) (w2 : World), (wr.alloc (.cells #[.int .u64 (x : Nat)] 22)).grownBy w2 v.ownBlock → Owns (wr.alloc (.cells #[.int .u64 (x : Nat)] 22)) w4.heap.size 22 .u64 v ((rd8 ys).take j) → Old w4 w2) := fun v w2 gr ow => (R.out.2.alloc _).grown' gr fun g e => (ow.lt e).1
          cases hB : belowP ((rd8 ys).take j)
          · rw [hB] at BN
            go_wp2_with (refine wp_append1 rfl _ _ 23 rfl w4.heap.size 22 .u64 8 Tryd.underlying23 (by kernel_rfl) (by omega) _ ((rd8 ys).take j) rfl OW1.out wr.heap.size 1 x rfl CY.out HN.out HS.out ?_; rintro v2 w2 ow gr)
            have R2 : Hid (Owns w2 w4.heap.size 22 .u64 v2 ((rd8 ys).take (j + 1)) ∧ Old w4 w2) := ⟨by rw [← TK.out]; exact ow, OB.out _ _ gr OW1.out⟩
            clear ow gr OW1 CY HN HS TK R OB
            go_roundw
            case rel => exact ⟨j + 1, by omega, by go_num, by rw [BN.out]; rfl, R2⟩
            case measure => simp [intOf]; omega
          · rw [hB] at BN
            by_cases hx : x < 2305843009213693951
            · have d3 : decide ((2305843009213693951 : Int) ≤ x) = false := decide_eq_false (by omega)
              rw [decide_eq_true hx] at BN
              clear hx
              go_wp2_with (refine wp_append1 rfl _ _ 23 rfl w4.heap.size 22 .u64 8 Tryd.underlying23 (by kernel_rfl) (by omega) _ ((rd8 ys).take j) rfl OW1.out wr.heap.size 1 x rfl CY.out HN.out HS.out ?_; rintro v2 w2 ow gr)
              have R2 : Hid (Owns w2 w4.heap.size 22 .u64 v2 ((rd8 ys).take (j + 1)) ∧ Old w4 w2) := ⟨by rw [← TK.out]; exact ow, OB.out _ _ gr OW1.out⟩
              clear ow gr OW1 CY HN HS TK R OB
              go_roundw
              case rel => exact ⟨j + 1, by omega, by go_num, by rw [BN.out]; rfl, R2⟩
              case measure => simp [intOf]; omega
            · have d3 : decide ((2305843009213693951 : Int) ≤ x) = true := decide_eq_true (by omega)
              rw [decide_eq_false hx] at BN
              clear hx
              go_wp2_with (refine wp_append1 rfl _ _ 23 rfl w4.heap.size 22 .u64 8 Tryd.underlying23 (by kernel_rfl) (by omega) _ ((rd8 ys).take j) rfl OW1.out wr.heap.size 1 x rfl CY.out HN.out HS.out ?_; rintro v2 w2 ow gr)
              have R2 : Hid (Owns w2 w4.heap.size 22 .u64 v2 ((rd8 ys).take (j + 1)) ∧ Old w4 w2) := ⟨by rw [← TK.out]; exact ow, OB.out _ _ gr OW1.out⟩
              clear ow gr OW1 CY HN HS TK R OB
              go_roundw
              case rel => exact ⟨j + 1, by omega, by go_num, by rw [BN.out]; rfl, R2⟩
              case measure => simp [intOf]; omega
        · obtain ⟨c, rfl⟩ : ∃ c', c = c' + 1 := ⟨c - 1, by omega⟩
          have hc8 : c < 8 := by omega
          have e1 : (((c + 1 : Nat) : Int) - 1) = (c : Int) := by omega
          obtain ⟨b, Hb, cb⟩ := (RY.mono R.out.2).num (i := 8 * j + c) (by rw [YL.out]; omega)
          have lb := YB.out b (List.mem_of_getElem? Hb.out)
          have ST := hide (xv_step hc8 Hb.out)
          have lx := xv_lt YB.out j c
          have E2 := hide (shl8_or lx lb)
          have c0 : (0 : Int) ≤ (c : Int) := by omega
          have c1 : (0 : Int) ≤ 8 * (j : Int) + (c : Int) := by omega
          have c2 : 8 * (j : Int) + (c : Int) < n := by omega
          rw [e1]
          go_wp2
          go_roundw
          case rel => exact ⟨c, by omega, by go_num, by rw [ST.out, E2.out], R⟩
          case measure => simp [intOf]; omega

end

theorem walk_SealOpens (v0 v1 v2 v3 v4 : Value) (w : World) (w0 : IsInt .u64 v0) (w1 : IsInt .u64 v1) (w2 : IsInt .i64 v2) (w3 : IsInt .i64 v3) (w4 : IsNums .u8 256 140737488351232 w v4) (qt : QTab w) :
    Calls Tryd.prog 4 #[v0, v1, v2, v3, v4] w fun e w' => e = .returned (.bool true) ∧ Old w w' := by
  obtain ⟨s, hs, rfl⟩ := sl64 w0
  obtain ⟨p, hp, rfl⟩ := sl64 w1
  obtain ⟨f, rfl⟩ := slI w2
  obtain ⟨t, rfl⟩ := slI w3
  obtain ⟨a, n, cap, bs, rfl, hl, hb, rd, hM, hcap⟩ := w4
  cases hd : (donP f && donP t)
  · exact opens_arg s p f t a n cap w hd hs hp qt hM (open_arg s p f t a n cap w hd)
  · by_cases h8 : n % 8 = 0
    · by_cases hn : 64 < n
      · exact opens_form2 s p f t a n cap w hd h8 hn hs hp qt hM (open_form s p f t a n cap w hd (.inr hn) hM)
      · have ha := fun w => agree_any s p hp w
        by_cases hE : agE s p = 0
        · obtain ⟨f', rfl, -, hf⟩ := donP_nat (z := f) (by revert hd; cases donP f <;> simp)
          obtain ⟨t', rfl, -, ht⟩ := donP_nat (z := t) (by revert hd; cases donP t <;> simp)
          rw [hE] at ha
          have nl := Nat.lt_trans (agN_lt s p) (show 2305843009213693951 < 18446744073709551616 by decide)
          have hm : n = 8 * (n / 8) := by omega
          have C := open_some s p f' t' bs a n (n / 8) cap w hf ht hd hl hm (by omega) hb rd (agN s p) nl qt ha
          cases hZ : belowP (rd8 (hid (agN s p) f' t' bs))
          · exact opens_large s p f' t' bs a n (n / 8) cap w hf ht hd hl hm (by omega) hb rd hs hp qt hE hZ (C.mono fun e w' h => ⟨h.1 hZ, h.2.2⟩)
          · refine opens_fine s p f' t' bs a n (n / 8) cap w hf ht hd hl hm (by omega) hb rd hs hp qt hE hZ (C.mono fun e w' h => ?_)
            obtain ⟨g, g0, g1, g2⟩ := h.2.1 hZ
            exact ⟨g, g0, g1, g2, h.2.2⟩
        · have hz : agN s p = 0 := by unfold agN; rw [if_neg hE]
          rw [hz] at ha
          have hE2 : ((agE s p : Int) != 0) = true := by rw [bne_iff_ne]; omega
          exact opens_agree s p f t a n cap w hd h8 (by omega) (agE s p) rfl hE2 hs hp qt hM (open_agree s p f t a n cap w hd h8 (by omega) (agE s p) hE2 ha)
    · exact opens_form1 s p f t a n cap w hd h8 hs hp qt hM (open_form s p f t a n cap w hd (.inl h8) hM)
end Go.Proofs.YtdnnpomnjblaeaaDoor
