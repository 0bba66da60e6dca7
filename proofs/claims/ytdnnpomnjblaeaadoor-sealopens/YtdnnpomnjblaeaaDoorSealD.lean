/-
  Package seal, fourth part: Lock where nothing is wrong; Open.
-/
import Derived.Test.YtdnnpomnjblaeaaDoorSealC
namespace Go.Proofs.YtdnnpomnjblaeaaDoor
open Go.RowKit Cha Limb Sl M
set_option linter.unusedVariables false

section
variable (s p f t : Nat) (xs : List Nat) (a : Option Addr) (n cap : Nat) (w : World)

set_option maxHeartbeats 2000000 in
theorem lock_ok (hf : f ≤ 64) (ht : t ≤ 64) (h : (donP f && donP t) = true) (hl : xs.length = n) (hn : n ≤ 8) (hb : belowP xs = true) (hx : ∀ x ∈ xs, x < 18446744073709551616) (rd : Rd w a (nums .u64 xs)) (q : Nat) (hq : q < 18446744073709551616) (qt : QTab w)
    (c : Hid (∀ w, Calls Tryd.prog 27 #[.int .u64 s, .int .u64 p] w fun e w' => e = .returned (.tuple #[.int .u64 q, .int .i64 0]) ∧ w' = w)) :
    Calls Tryd.prog 6 #[.int .u64 s, .int .u64 p, .int .i64 f, .int .i64 t, .slice a n cap] w fun e w' =>
      ∃ g, w.heap.size ≤ g ∧ e = .returned (.tuple #[.slice (some ⟨g, 0, none⟩) (8 * n) (8 * n), .int .i64 0]) ∧ Row w' g 5 (nums .u8 (hid q f t (wr8 xs))) ∧ Old w w' := by
  have C1 := hide (sound_any s p f t)
  rw [h] at C1
  have R0 := hide (Row.new w 44 (wayV s p f t))
  have O := Old.of_alloc w (.cells (wayV s p f t).toArray 44)
  have HW : Hid ((Tryd.prog.info? 44).map (·.size) = some (wayV s p f t).length) := info_w rfl
  have d1 : decide ((8 : Int) < n) = false := decide_eq_false (by omega)
  have C2 := hide (fun (w' : World) (o : Old w w') => allBelowP_any xs a n cap hl (by omega) w' (rd.mono o))
  rw [hb] at C2
  have C3 := hide (fun (w' : World) (o : Old w w') => written_any xs a n cap hl hn hx w' (rd.mono o))
  have C4 := hide (fun (b : Option Addr) (c' : Nat) (w' : World) (o : Old w w') (rd' : Rd w' b (nums .u8 (wr8 xs))) => veil_ok s p f t q hf ht hq (wr8 xs) b (8 * n) c' (by rw [wr8_length, hl]) (by omega) (wr8_lt xs) w' rd' (qt.mono o) c)
  obtain ⟨m, hm⟩ : ∃ m, m = 8 * n := ⟨_, rfl⟩
  rw [← hm] at C3 C4 ⊢
  clear hm
  clear h hb hl rd hx c hn hf ht hq qt
  unfold wayV at *
  go_enter Tryd.func6, Tryd.ntmps6
  go_wp2_with (refine wp_load_whole rfl 44 _ rfl w.heap.size rfl R0.out Tryd.underlying44 rfl HW.out ?_)
  refine (C1.out _).mono ?_
  rintro e w1 ⟨rfl, o1⟩
  have O1 := O.trans o1
  have R1 := hide (R0.out.mono o1)
  clear O o1 R0 C1
  go_wp2_with fail
  refine (C2.out _ O1).mono ?_
  rintro e w2 ⟨rfl, rfl⟩
  clear C2
  go_wp2_with fail
  have B1 : WB w [.int .u64 (s : Nat), .int .u64 (p : Nat), .int .i64 f, .int .i64 t] (w2.drewN 1) := ⟨(R1.out.mono ((Old.refl w2).drewN 1)).range, O1.drewN 1⟩
  refine Ssx.region (Ext := Old) (WB w [.int .u64 (s : Nat), .int .u64 (p : Nat), .int .i64 f, .int .i64 t]) [29, 30, 31, 32, 33, 34, 10, 11]
    [(29, Ssx.cst (.agg #[.int .u64 (s : Nat), .int .u64 (p : Nat), .int .i64 f, .int .i64 t])), (30, Ssx.cst (.slice a n cap)), (31, fresh w.heap.size .u8 5 m (wr8 xs)), (32, freshP w.heap.size .u8 5 m (hid q f t (wr8 xs))), (33, fresh w.heap.size .u8 5 m (hid q f t (wr8 xs))), (34, Ssx.cst (.int .i64 0)), (10, fresh w.heap.size .u8 5 m (hid q f t (wr8 xs))), (11, Ssx.cst (.int .i64 0))]
    [] (by kernel_rfl) (by kernel_rfl) (by kernel_rfl) (by kernel_rfl) (fun _ _ h => by cases h) (by kernel_rfl) (by kernel_rfl) (by kernel_rfl) B1 ?good ?behind
  case good =>
    refine ⟨Ssx.whole Old.refl rfl rfl w.heap.size [.int .u64 (s : Nat), .int .u64 (p : Nat), .int .i64 f, .int .i64 t] (fun _ _ h => h) (fun _ h => h.k) Tryd.underlying44 rfl HW.out (fun _ => rfl), Ssx.mv Old.refl rfl rfl (fun _ _ h => h), ?_, ?_,
      sl_ext Old.refl 0 rfl rfl (fun _ _ ⟨u, h1, h2⟩ => ⟨_, _, h1, rfl, h2⟩), sl_ext Old.refl 1 rfl rfl (fun _ _ ⟨u, h1, h2⟩ => ⟨_, _, h1, rfl, rfl⟩), Ssx.asg Old.refl rfl rfl (fun _ _ h => h), Ssx.asg Old.refl rfl rfl (fun _ _ h => h), trivial⟩
    · refine Ssx.call rfl fun a' w' hC hop => ⟨19, #[.slice a n cap], ?_, ?_⟩
      · have h1 : a'.eval (.tmp 30) = .slice a n cap := hop 30 (by simp [Op.operands, Call.operands])
        simp [Act.eval] at h1
        simp [h1, go_sem]
      · exact (C3.out w' hC.old).mono fun _ _ ⟨g, h0, h1, h2, h3⟩ => ⟨_, h1, hC.mono h3, h3, ⟨g, Nat.le_trans hC.old.size h0, rfl, h2⟩⟩
    · refine Ssx.call rfl fun a' w' hC hop => ?_
      have h1 : a'.eval (.tmp 29) = .agg #[.int .u64 (s : Nat), .int .u64 (p : Nat), .int .i64 f, .int .i64 t] := hop 29 (by simp [Op.operands, Call.operands])
      obtain ⟨b, _, h2, h3⟩ : (fresh w.heap.size .u8 5 m (wr8 xs)).p (a'.eval (.tmp 31)) w' := hop 31 (by simp [Op.operands, Call.operands])
      refine ⟨18, #[.agg #[.int .u64 (s : Nat), .int .u64 (p : Nat), .int .i64 f, .int .i64 t], .slice (some ⟨b, 0, none⟩) m m], ?_, ?_⟩
      · simp [Act.eval] at h1 h2
        simp [h1, h2, go_sem]
      · exact (C4.out _ _ w' hC.old h3.rd).mono fun _ _ ⟨g, g0, g1, g2, g3⟩ => ⟨_, g1, hC.mono g3, g3, ⟨_, rfl, ⟨g, Nat.le_trans hC.old.size g0, rfl, g2⟩⟩⟩
  case behind =>
    intro vals w3 hC hv
    have h10 : (fresh w.heap.size .u8 5 m (hid q f t (wr8 xs))).p (vals 10) w3 := hv _ (.tail _ (.tail _ (.tail _ (.tail _ (.tail _ (.tail _ (.head _)))))))
    have h11 : vals 11 = .int .i64 0 := hv _ (.tail _ (.tail _ (.tail _ (.tail _ (.tail _ (.tail _ (.tail _ (.head _))))))))
    have hol := hC.old
    obtain ⟨g, g0, g1, g2⟩ := h10
    clear hC hv
    simp only [Ssa.putAll, List.map_cons, List.map_nil, List.foldl_cons, List.foldl_nil, List.setIfInBounds_toArray, List.set_cons_succ, List.set_cons_zero]
    rename_i Q0 K0 hK
    refine hK _ w3 ?_
    clear hK
    rw [g1, h11]
    go_wp2
    go_ret2
    exact ⟨g, g0, rfl, g2, hol⟩
end

section
variable (s p : Nat) (f t : Int) (bs : List Nat) (a : Option Addr) (n cap : Nat) (w : World)

set_option maxHeartbeats 1000000 in
theorem open_arg (h : (donP f && donP t) = false) :
    Calls Tryd.prog 12 #[.int .u64 s, .int .u64 p, .int .i64 f, .int .i64 t, .slice a n cap] w fun e w' => e = .returned (.tuple #[.slice none 0 0, .int .i64 1]) ∧ Old w w' := by
  have C1 := hide (sound_any s p f t)
  rw [h] at C1
  have R0 := hide (Row.new w 44 (wayV s p f t))
  have O := Old.of_alloc w (.cells (wayV s p f t).toArray 44)
  have HW : Hid ((Tryd.prog.info? 44).map (·.size) = some (wayV s p f t).length) := info_w rfl
  clear h
  unfold wayV at *
  go_enter Tryd.func12, Tryd.ntmps12
  go_wp2_with (refine wp_load_whole rfl 44 _ rfl w.heap.size rfl R0.out Tryd.underlying44 rfl HW.out ?_)
  refine (C1.out _).mono ?_
  rintro e w1 ⟨rfl, o1⟩
  go_wp2
  go_ret2
  exact ⟨rfl, O.trans o1⟩

set_option maxHeartbeats 1000000 in
theorem open_form (h : (donP f && donP t) = true) (hn : n % 8 ≠ 0 ∨ 64 < n) (hM : n ≤ 140737488351232) :
    Calls Tryd.prog 12 #[.int .u64 s, .int .u64 p, .int .i64 f, .int .i64 t, .slice a n cap] w fun e w' => e = .returned (.tuple #[.slice none 0 0, .int .i64 2]) ∧ Old w w' := by
  have C1 := hide (sound_any s p f t)
  rw [h] at C1
  have R0 := hide (Row.new w 44 (wayV s p f t))
  have O := Old.of_alloc w (.cells (wayV s p f t).toArray 44)
  have HW : Hid ((Tryd.prog.info? 44).map (·.size) = some (wayV s p f t).length) := info_w rfl
  have n0 : (n : Int) ≤ 140737488351232 := by omega
  clear h
  by_cases h8 : n % 8 = 0
  · have d1 : ((n : Int) % 8 != 0) = false := by rw [bne_eq_false_iff_eq]; omega
    have d2 : decide ((64 : Int) < n) = true := decide_eq_true (by omega)
    clear hn h8
    unfold wayV at *
    go_enter Tryd.func12, Tryd.ntmps12
    go_wp2_with (refine wp_load_whole rfl 44 _ rfl w.heap.size rfl R0.out Tryd.underlying44 rfl HW.out ?_)
    refine (C1.out _).mono ?_
    rintro e w1 ⟨rfl, o1⟩
    go_wp2
    go_ret2
    exact ⟨rfl, O.trans o1⟩
  · have d1 : ((n : Int) % 8 != 0) = true := by rw [bne_iff_ne]; omega
    clear hn h8
    unfold wayV at *
    go_enter Tryd.func12, Tryd.ntmps12
    go_wp2_with (refine wp_load_whole rfl 44 _ rfl w.heap.size rfl R0.out Tryd.underlying44 rfl HW.out ?_)
    refine (C1.out _).mono ?_
    rintro e w1 ⟨rfl, o1⟩
    go_wp2
    go_ret2
    exact ⟨rfl, O.trans o1⟩

set_option maxHeartbeats 2000000 in
theorem open_agree (h : (donP f && donP t) = true) (h8 : n % 8 = 0) (hn : n ≤ 64) (E : Nat) (hE : ((E : Int) != 0) = true)
    (c : Hid (∀ w, Calls Tryd.prog 27 #[.int .u64 s, .int .u64 p] w fun e w' => e = .returned (.tuple #[.int .u64 0, .int .i64 E]) ∧ w' = w)) :
    Calls Tryd.prog 12 #[.int .u64 s, .int .u64 p, .int .i64 f, .int .i64 t, .slice a n cap] w fun e w' => e = .returned (.tuple #[.slice none 0 0, .int .i64 E]) ∧ Old w w' := by
  have C1 := hide (sound_any s p f t)
  rw [h] at C1
  have R0 := hide (Row.new w 44 (wayV s p f t))
  have O := Old.of_alloc w (.cells (wayV s p f t).toArray 44)
  have HW : Hid ((Tryd.prog.info? 44).map (·.size) = some (wayV s p f t).length) := info_w rfl
  have n0 : (n : Int) ≤ 64 := by omega
  have d1 : ((n : Int) % 8 != 0) = false := by rw [bne_eq_false_iff_eq]; omega
  have d2 : decide ((64 : Int) < n) = false := decide_eq_false (by omega)
  have C4 := hide (fun (w' : World) => veil_no s p f t E hE a n cap w' c)
  clear h h8 hn c
  unfold wayV at *
  go_enter Tryd.func12, Tryd.ntmps12
  go_wp2_with (refine wp_load_whole rfl 44 _ rfl w.heap.size rfl R0.out Tryd.underlying44 rfl HW.out ?_)
  refine (C1.out _).mono ?_
  rintro e w1 ⟨rfl, o1⟩
  have O1 := O.trans o1
  have R1 := hide (R0.out.mono o1)
  clear O o1 R0 C1
  go_wp2_with (refine wp_load_whole rfl 44 _ rfl w.heap.size rfl R1.out Tryd.underlying44 rfl HW.out ?_)
  refine (C4.out _).mono ?_
  rintro e w2 ⟨rfl, o2⟩
  go_wp2
  go_ret2
  exact ⟨rfl, O1.trans o2⟩
end

section
variable (s p f t : Nat) (bs : List Nat) (a : Option Addr) (n m cap : Nat) (w : World)

set_option maxHeartbeats 2000000 in
theorem open_some (hf : f ≤ 64) (ht : t ≤ 64) (h : (donP f && donP t) = true) (hl : bs.length = n) (hm : n = 8 * m) (hn : m ≤ 8) (hb : ∀ x ∈ bs, x < 256) (rd : Rd w a (nums .u8 bs)) (q : Nat) (hq : q < 18446744073709551616) (qt : QTab w)
    (c : Hid (∀ w, Calls Tryd.prog 27 #[.int .u64 s, .int .u64 p] w fun e w' => e = .returned (.tuple #[.int .u64 q, .int .i64 0]) ∧ w' = w)) :
    Calls Tryd.prog 12 #[.int .u64 s, .int .u64 p, .int .i64 f, .int .i64 t, .slice a n cap] w fun e w' =>
      (belowP (rd8 (hid q f t bs)) = false → e = .returned (.tuple #[.slice none 0 0, .int .i64 4])) ∧
      (belowP (rd8 (hid q f t bs)) = true → ∃ g, w.heap.size ≤ g ∧ e = .returned (.tuple #[.slice (some ⟨g, 0, none⟩) m m, .int .i64 0]) ∧ Row w' g 22 (nums .u64 (rd8 (hid q f t bs)))) ∧ Old w w' := by
  have C1 := hide (sound_any s p f t)
  rw [h] at C1
  have R0 := hide (Row.new w 44 (wayV s p f t))
  have O := Old.of_alloc w (.cells (wayV s p f t).toArray 44)
  have HW : Hid ((Tryd.prog.info? 44).map (·.size) = some (wayV s p f t).length) := info_w rfl
  have n0 : (n : Int) ≤ 64 := by omega
  have d1 : ((n : Int) % 8 != 0) = false := by rw [bne_eq_false_iff_eq]; omega
  have d2 : decide ((64 : Int) < n) = false := decide_eq_false (by omega)
  have C4 := hide (fun (w' : World) (o : Old w w') => veil_ok s p f t q hf ht hq bs a n cap hl (by omega) hb w' (rd.mono o) (qt.mono o) c)
  have C5 := hide (fun (b : Option Addr) (c' : Nat) (w' : World) (rd' : Rd w' b (nums .u8 (hid q f t bs))) => read_any (hid q f t bs) b n m c' (by rw [hid_length, hl]) hm hn (hid_lt q f t hb) w' rd')
  have YL := hide (rd8_length (hid q f t bs))
  have C6 := hide (fun (b : Option Addr) (c' : Nat) (w' : World) (rd' : Rd w' b (nums .u64 (rd8 (hid q f t bs)))) => allBelowP_any (rd8 (hid q f t bs)) b m c' (by rw [YL.out, hid_length, hl]; omega) (by omega) w' rd')
  clear h c hb hl rd hq qt hf ht YL hm hn
  generalize hid q f t bs = ys at *
  generalize rd8 ys = zs at *
  unfold wayV at *
  cases hz : belowP zs
  all_goals
    rw [hz] at C6
    go_enter Tryd.func12, Tryd.ntmps12
    go_wp2_with (refine wp_load_whole rfl 44 _ rfl w.heap.size rfl R0.out Tryd.underlying44 rfl HW.out ?_)
    refine (C1.out _).mono ?_
    rintro e w1 ⟨rfl, o1⟩
    have O1 := O.trans o1
    have R1 := hide (R0.out.mono o1)
    clear O o1 R0 C1
    go_wp2_with (refine wp_load_whole rfl 44 _ rfl w.heap.size rfl R1.out Tryd.underlying44 rfl HW.out ?_)
    refine (C4.out _ O1).mono ?_
    rintro e w2 ⟨g, g0, rfl, g2, o2⟩
    have O2 := O1.trans o2
    clear O1 o2 R1 C4
    go_wp2_with fail
    refine (C5.out _ _ _ g2.rd).mono ?_
    rintro e w3 ⟨g3, g4, rfl, g5, o3⟩
    have O3 := O2.trans o3
    have le3 := Nat.le_trans O2.size g4
    clear O2 o3 C5 g2 g4
    go_wp2_with fail
    refine (C6.out _ _ _ g5.rd).mono ?_
    rintro e w4 ⟨rfl, rfl⟩
    clear C6
    go_wp2
    go_ret2
    first
      | exact ⟨fun _ => rfl, fun h => absurd h (by simp), O3⟩
      | exact ⟨fun h => absurd h (by simp), fun _ => ⟨g3, le3, rfl, g5⟩, O3⟩
end
end Go.Proofs.YtdnnpomnjblaeaaDoor
