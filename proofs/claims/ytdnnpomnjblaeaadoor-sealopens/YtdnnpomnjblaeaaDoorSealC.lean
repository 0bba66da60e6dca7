/-
  Package seal, third part: Lock, Open.
-/
import Derived.Test.YtdnnpomnjblaeaaDoorSealB
namespace Go.Proofs.YtdnnpomnjblaeaaDoor
open Go.RowKit Cha Limb Sl M
set_option linter.unusedVariables false

namespace Sl
/-- What Agree answers, told as numbers: the error, the number. -/
def agE (s p : Nat) : Nat := if s < 1 ∨ 2305843009213693949 < s then 1 else if goodP p = true then 0 else 16
def agN (s p : Nat) : Nat := if agE s p = 0 then powP p s else 0
/-- What Lock's answer is wrong for, and Open's, till the number is known. -/
def lockE (s p : Nat) (f t : Int) (xs : List Nat) : Nat := if (donP f && donP t) = false ∨ 8 < xs.length then 1 else if belowP xs = true then agE s p else 4
def openE (s p : Nat) (f t : Int) (n : Nat) : Nat := if (donP f && donP t) = false then 1 else if n % 8 ≠ 0 ∨ 64 < n then 2 else agE s p
theorem agE_cases (s p : Nat) : (agE s p = 0 ∧ 1 ≤ s ∧ s ≤ 2305843009213693949 ∧ goodP p = true) ∨ (agE s p = 1 ∧ (s < 1 ∨ 2305843009213693949 < s)) ∨ (agE s p = 16 ∧ 1 ≤ s ∧ s ≤ 2305843009213693949 ∧ goodP p = false) := by
  unfold agE
  by_cases h : s < 1 ∨ 2305843009213693949 < s
  · rw [if_pos h]; exact .inr (.inl ⟨rfl, h⟩)
  · rw [if_neg h]
    cases hg : goodP p
    · exact .inr (.inr ⟨by simp, by omega, by omega, rfl⟩)
    · exact .inl ⟨by simp, by omega, by omega, rfl⟩
theorem agN_lt (s p : Nat) : agN s p < 2305843009213693951 := by
  unfold agN
  split
  · exact powP_lt _ _
  · omega
end Sl

theorem agree_any (s p : Nat) (hp : p < 18446744073709551616) (w : World) :
    Calls Tryd.prog 27 #[.int .u64 s, .int .u64 p] w fun e w' => e = .returned (.tuple #[.int .u64 (agN s p), .int .i64 (agE s p)]) ∧ w' = w := by
  rcases agE_cases s p with ⟨h, h1, h2, h3⟩ | ⟨h, h1⟩ | ⟨h, h1, h2, h3⟩
  · rw [show agN s p = powP p s by unfold agN; rw [if_pos h], h]
    exact Agree_some s p h1 h2 hp h3 w
  · rw [show agN s p = 0 by unfold agN; rw [if_neg (by rw [h]; omega)], h]
    exact Agree_none s p h1 w
  · rw [show agN s p = 0 by unfold agN; rw [if_neg (by rw [h]; omega)], h]
    exact Agree_bad s p h1 h2 h3 w

theorem sl_ext {P : Program} {C : World → Prop} {Ext : World → World → Prop} {Ok : Tmp → Value → World → Prop} {o : Oper} {d : Tmp} (hr : ∀ w, Ext w w) {x : Tmp} (i : Nat) (ho : o.op = .extract (.tmp x) i) (hd : o.dst = some d)
    (hX : ∀ v w, Ok x v w → ∃ vs u, v = .tuple vs ∧ vs[i]? = some u ∧ Ok d u w) : Ssb.Good P C Ext Ok o :=
  Ssx.val hr hd fun a w hC hop => by
    obtain ⟨vs, u, h1, h2, h3⟩ := hX _ _ (hop x (by rw [ho]; simp [Op.operands]))
    exact ⟨u, Ssa.run_ext i ho h1 h2 w, h3⟩
/-- A new slice over a block that is known whole, in a pair with no error. -/
def freshP (g0 : Nat) (k : IntKind) (t : TypeId) (n : Nat) (xs : List Nat) : Ssx.XP Old :=
  ⟨fun v w => ∃ u, v = .tuple #[u, .int .i64 0] ∧ (fresh g0 k t n xs).p u w, fun _ _ _ ⟨u, h1, h2⟩ o => ⟨u, h1, (fresh g0 k t n xs).st _ _ _ h2 o⟩⟩

section
variable (s p : Nat) (f t : Int) (xs : List Nat) (a : Option Addr) (n cap : Nat) (w : World)

set_option maxHeartbeats 1000000 in
theorem lock_arg1 (h : (donP f && donP t) = false) :
    Calls Tryd.prog 6 #[.int .u64 s, .int .u64 p, .int .i64 f, .int .i64 t, .slice a n cap] w fun e w' => e = .returned (.tuple #[.slice none 0 0, .int .i64 1]) ∧ Old w w' := by
  have C1 := hide (sound_any s p f t)
  rw [h] at C1
  have R0 := hide (Row.new w 44 (wayV s p f t))
  have O := Old.of_alloc w (.cells (wayV s p f t).toArray 44)
  have HW : Hid ((Tryd.prog.info? 44).map (·.size) = some (wayV s p f t).length) := info_w rfl
  clear h
  unfold wayV at *
  go_enter Tryd.func6, Tryd.ntmps6
  go_wp2_with (refine wp_load_whole rfl 44 _ rfl w.heap.size rfl R0.out Tryd.underlying44 rfl HW.out ?_)
  refine (C1.out _).mono ?_
  rintro e w1 ⟨rfl, o1⟩
  go_wp2
  go_ret2
  exact ⟨rfl, O.trans o1⟩

set_option maxHeartbeats 1000000 in
theorem lock_arg2 (h : (donP f && donP t) = true) (hn : 8 < n) :
    Calls Tryd.prog 6 #[.int .u64 s, .int .u64 p, .int .i64 f, .int .i64 t, .slice a n cap] w fun e w' => e = .returned (.tuple #[.slice none 0 0, .int .i64 1]) ∧ Old w w' := by
  have C1 := hide (sound_any s p f t)
  rw [h] at C1
  have R0 := hide (Row.new w 44 (wayV s p f t))
  have O := Old.of_alloc w (.cells (wayV s p f t).toArray 44)
  have HW : Hid ((Tryd.prog.info? 44).map (·.size) = some (wayV s p f t).length) := info_w rfl
  have d1 : decide ((8 : Int) < n) = true := decide_eq_true (by omega)
  clear h hn
  unfold wayV at *
  go_enter Tryd.func6, Tryd.ntmps6
  go_wp2_with (refine wp_load_whole rfl 44 _ rfl w.heap.size rfl R0.out Tryd.underlying44 rfl HW.out ?_)
  refine (C1.out _).mono ?_
  rintro e w1 ⟨rfl, o1⟩
  go_wp2
  go_ret2
  exact ⟨rfl, O.trans o1⟩

set_option maxHeartbeats 1000000 in
theorem lock_range (h : (donP f && donP t) = true) (hl : xs.length = n) (hn : n ≤ 8) (hb : belowP xs = false) (rd : Rd w a (nums .u64 xs)) :
    Calls Tryd.prog 6 #[.int .u64 s, .int .u64 p, .int .i64 f, .int .i64 t, .slice a n cap] w fun e w' => e = .returned (.tuple #[.slice none 0 0, .int .i64 4]) ∧ Old w w' := by
  have C1 := hide (sound_any s p f t)
  rw [h] at C1
  have R0 := hide (Row.new w 44 (wayV s p f t))
  have O := Old.of_alloc w (.cells (wayV s p f t).toArray 44)
  have HW : Hid ((Tryd.prog.info? 44).map (·.size) = some (wayV s p f t).length) := info_w rfl
  have d1 : decide ((8 : Int) < n) = false := decide_eq_false (by omega)
  have C2 := hide (fun (w' : World) (o : Old w w') => allBelowP_any xs a n cap hl (by omega) w' (rd.mono o))
  rw [hb] at C2
  clear h hb hl rd
  unfold wayV at *
  go_enter Tryd.func6, Tryd.ntmps6
  go_wp2_with (refine wp_load_whole rfl 44 _ rfl w.heap.size rfl R0.out Tryd.underlying44 rfl HW.out ?_)
  refine (C1.out _).mono ?_
  rintro e w1 ⟨rfl, o1⟩
  have O1 := O.trans o1
  clear O o1
  go_wp2_with fail
  refine (C2.out _ O1).mono ?_
  rintro e w2 ⟨rfl, rfl⟩
  go_wp2
  go_ret2
  exact ⟨rfl, O1⟩

set_option maxHeartbeats 2000000 in
theorem lock_agree (h : (donP f && donP t) = true) (hl : xs.length = n) (hn : n ≤ 8) (hb : belowP xs = true) (hx : ∀ x ∈ xs, x < 18446744073709551616) (rd : Rd w a (nums .u64 xs)) (E : Nat) (hE : ((E : Int) != 0) = true)
    (c : Hid (∀ w, Calls Tryd.prog 27 #[.int .u64 s, .int .u64 p] w fun e w' => e = .returned (.tuple #[.int .u64 0, .int .i64 E]) ∧ w' = w)) :
    Calls Tryd.prog 6 #[.int .u64 s, .int .u64 p, .int .i64 f, .int .i64 t, .slice a n cap] w fun e w' => e = .returned (.tuple #[.slice none 0 0, .int .i64 E]) ∧ Old w w' := by
  have C1 := hide (sound_any s p f t)
  rw [h] at C1
  have R0 := hide (Row.new w 44 (wayV s p f t))
  have O := Old.of_alloc w (.cells (wayV s p f t).toArray 44)
  have HW : Hid ((Tryd.prog.info? 44).map (·.size) = some (wayV s p f t).length) := info_w rfl
  have d1 : decide ((8 : Int) < n) = false := decide_eq_false (by omega)
  have C2 := hide (fun (w' : World) (o : Old w w') => allBelowP_any xs a n cap hl (by omega) w' (rd.mono o))
  rw [hb] at C2
  have C3 := hide (fun (w' : World) (o : Old w w') => written_any xs a n cap hl hn hx w' (rd.mono o))
  have C4 := hide (fun (b : Option Addr) (m c' : Nat) (w' : World) => veil_no s p f t E hE b m c' w' c)
  clear h hb hl rd hx c hE hn
  unfold wayV at *
  go_enter Tryd.func6, Tryd.ntmps6
  go_wp2_with (refine wp_load_whole rfl 44 _ rfl w.heap.size rfl R0.out Tryd.underlying44 rfl HW.out ?_)
  refine (C1.out _).mono ?_
  rintro e w1 ⟨rfl, o1⟩
  have O1 := O.trans o1
  have R1 := hide (R0.out.mono o1)
  clear O o1 R0 C1
  go_wp2_with fail
  refine (C2.out _ O1).mono ?_
  rintro e w2 ⟨rfl, rfl⟩
  clear C2
  go_wp2_with fail
  have B1 : WB w [.int .u64 (s : Nat), .int .u64 (p : Nat), .int .i64 f, .int .i64 t] (w2.drewN 1) := ⟨(R1.out.mono ((Old.refl w2).drewN 1)).range, O1.drewN 1⟩
  obtain ⟨m, hm⟩ : ∃ m, m = 8 * n := ⟨_, rfl⟩
  rw [← hm] at C3
  clear hm
  refine Ssx.region (Ext := Old) (WB w [.int .u64 (s : Nat), .int .u64 (p : Nat), .int .i64 f, .int .i64 t]) [29, 30, 31, 32, 33, 34, 10, 11]
    [(29, Ssx.cst (.agg #[.int .u64 (s : Nat), .int .u64 (p : Nat), .int .i64 f, .int .i64 t])), (30, Ssx.cst (.slice a n cap)), (31, fresh w.heap.size .u8 5 m (wr8 xs)), (32, Ssx.cst (.tuple #[.slice none 0 0, .int .i64 E])), (33, Ssx.cst (.slice none 0 0)), (34, Ssx.cst (.int .i64 E)), (10, Ssx.cst (.slice none 0 0)), (11, Ssx.cst (.int .i64 E))]
    [] (by kernel_rfl) (by kernel_rfl) (by kernel_rfl) (by kernel_rfl) (fun _ _ h => by cases h) (by kernel_rfl) (by kernel_rfl) (by kernel_rfl) B1 ?good ?behind
  case good =>
    refine ⟨Ssx.whole Old.refl rfl rfl w.heap.size [.int .u64 (s : Nat), .int .u64 (p : Nat), .int .i64 f, .int .i64 t] (fun _ _ h => h) (fun _ h => h.k) Tryd.underlying44 rfl HW.out (fun _ => rfl), Ssx.mv Old.refl rfl rfl (fun _ _ h => h), ?_, ?_,
      sl_ext Old.refl 0 rfl rfl (fun _ _ h => ⟨_, _, h, rfl, rfl⟩), sl_ext Old.refl 1 rfl rfl (fun _ _ h => ⟨_, _, h, rfl, rfl⟩), Ssx.asg Old.refl rfl rfl (fun _ _ h => h), Ssx.asg Old.refl rfl rfl (fun _ _ h => h), trivial⟩
    · refine Ssx.call rfl fun a' w' hC hop => ⟨19, #[.slice a n cap], ?_, ?_⟩
      · have h1 : a'.eval (.tmp 30) = .slice a n cap := hop 30 (by simp [Op.operands, Call.operands])
        simp [Act.eval] at h1
        simp [h1, go_sem]
      · exact (C3.out w' hC.old).mono fun _ _ ⟨g, h0, h1, h2, h3⟩ => ⟨_, h1, hC.mono h3, h3, ⟨g, Nat.le_trans hC.old.size h0, rfl, h2⟩⟩
    · refine Ssx.call rfl fun a' w' hC hop => ?_
      have h1 : a'.eval (.tmp 29) = .agg #[.int .u64 (s : Nat), .int .u64 (p : Nat), .int .i64 f, .int .i64 t] := hop 29 (by simp [Op.operands, Call.operands])
      obtain ⟨b, _, h2, _⟩ : (fresh w.heap.size .u8 5 m (wr8 xs)).p (a'.eval (.tmp 31)) w' := hop 31 (by simp [Op.operands, Call.operands])
      refine ⟨18, #[.agg #[.int .u64 (s : Nat), .int .u64 (p : Nat), .int .i64 f, .int .i64 t], .slice (some ⟨b, 0, none⟩) m m], ?_, ?_⟩
      · simp [Act.eval] at h1 h2
        simp [h1, h2, go_sem]
      · exact (C4.out _ _ _ w').mono fun _ _ ⟨h1, h2⟩ => ⟨_, h1, hC.mono h2, h2, rfl⟩
  case behind =>
    intro vals w3 hC hv
    have h10 : vals 10 = .slice none 0 0 := hv _ (.tail _ (.tail _ (.tail _ (.tail _ (.tail _ (.tail _ (.head _)))))))
    have h11 : vals 11 = .int .i64 E := hv _ (.tail _ (.tail _ (.tail _ (.tail _ (.tail _ (.tail _ (.tail _ (.head _))))))))
    have hol := hC.old
    clear hC hv
    simp only [Ssa.putAll, List.map_cons, List.map_nil, List.foldl_cons, List.foldl_nil, List.setIfInBounds_toArray, List.set_cons_succ, List.set_cons_zero]
    rename_i Q0 K0 hK
    refine hK _ w3 ?_
    clear hK
    rw [h10, h11]
    go_wp2
    go_ret2
    exact ⟨rfl, hol⟩
end
end Go.Proofs.YtdnnpomnjblaeaaDoor
