/-
  The walks of layer 8's statements, if the layer's calls are what they owe.
-/
import Derived.Test.YtienijnggccnfaaLimbC
import Derived.Test.YtienijnggccnfaaSsy
import Derived.Test.YtienijnggccnfaaOpen
namespace Go.Proofs.Ytienijnggccnfaa
open Go.RowKit Limb
set_option linter.unusedVariables false

/-- Blocks that hold what they held, in a world in which nothing old has turned. -/
structure Kp (w : World) (bs : List (Nat × List Value)) (wr : World) : Prop where
  old : Old w wr
  has : ∀ p ∈ bs, wr.rangeAt p.1 0 p.2
theorem Kp.mono {w wr w' : World} {bs : List (Nat × List Value)} (h : Kp w bs wr) (o : Old wr w') : Kp w bs w' :=
  ⟨h.old.trans o, fun p hp j v hv => by
    have hc := h.has p hp j v hv
    exact (Below.cell o (World.block_lt_of_cell? wr _ hc)).trans hc⟩
theorem eq5 (xs ys : List Nat) (hx : xs.length = 5) (hy : ys.length = 5) (w : World) : (Op.equalIn 10000 24 (.agg (nums .u64 xs).toArray) (.agg (nums .u64 ys).toArray)).run Try.prog w = .ok (decide (xs = ys)) w :=
  eq_arr Try.underlying24 Try.underlying23 (fun w => by kernel_rfl) xs ys hx hy w
theorem eq32 (xs ys : List Nat) (hx : xs.length = 32) (hy : ys.length = 32) (w : World) : (Op.equalIn 10000 22 (.agg (nums .u8 xs).toArray) (.agg (nums .u8 ys).toArray)).run Try.prog w = .ok (decide (xs = ys)) w :=
  eq_arr Try.underlying22 Try.underlying5 (fun w => by kernel_rfl) xs ys hx hy w
theorem eqS (xs ys : List Nat) (hx : xs.length = 32) (hy : ys.length = 32) (w : World) : (Op.equalIn 10000 26 (.agg (nums .u8 xs).toArray) (.agg (nums .u8 ys).toArray)).run Try.prog w = .ok (decide (xs = ys)) w :=
  eq_arr Try.underlying26 Try.underlying5 (fun w => by kernel_rfl) xs ys hx hy w

set_option maxHeartbeats 2000000 in
theorem walkK_LimbCuts (K : LimbK) (v0 : Value) (w : World) (w0 : IsArr .u8 256 32 v0) :
    Calls Try.prog 3 #[v0] w fun e w' => e = .returned (.bool true) ∧ Old w w' := by
  obtain ⟨s, rfl, hl, hb⟩ := w0
  have KK := hide K
  have HL := hide hl
  have HB := hide hb
  have R0 : Hid (Row (w.alloc (.cells (nums .u8 s).toArray 22)) w.heap.size 22 (nums .u8 s)) := Row.new _ _ _
  have C1 := hide (K.cut s hl hb)
  have LT := hide (cutL_lt hb)
  have LL := hide (cutL_length s)
  have C2 : Hid (∀ w, Calls Try.prog 9 #[.agg (nums .u8 s).toArray] w fun e w' => e = .returned (.agg (nums .u64 (cutL s)).toArray) ∧ Old w w') := fun w => refCut_any s hl hb w
  clear K hl hb
  revert C1 C2 LT LL
  generalize cutL s = l
  intro C1 LT LL C2
  go_enter Try.func3, Try.ntmps3
  go_wp2_with (refine wp_load_whole rfl 22 _ rfl w.heap.size rfl R0.out Try.underlying22 rfl (info32 HL.out) ?_)
  refine (C1.out _).mono ?_
  rintro e w1 ⟨rfl, o1⟩
  have R1 := hide (R0.out.mono o1)
  have O1 := (Old.of_alloc w (.cells (nums .u8 s).toArray 22)).trans o1
  clear R0 o1 C1
  have Z1 : Hid (Row (w1.alloc (.cells (nums .u64 z5).toArray 24)) w1.heap.size 24 (nums .u64 z5)) := Row.new _ _ _
  go_wp2_with (first
    | (refine wp_store_whole rfl 24 _ _ rfl w1.heap.size rfl (nums .u64 l) rfl Z1.out (info5 LL.out) (by rw [nums_length, nums_length, LL.out]; rfl) (nums_oneCell _ _) ?_; rintro w2 h2
       have L2 : Hid (Row w2 w1.heap.size 24 (nums .u64 l)) := by show Row _ _ _ _; rw [h2]; exact Z1.out.whole _
       have o2 : Old w1 w2 := by rw [h2]; exact (Old.of_alloc _ _).grown (grown_setRow _ _ _) (Nat.le_refl _)
       have R2 := hide (R1.out.mono o2)
       have O2 := O1.trans o2
       clear h2 o2 R1 O1 Z1))
  go_loop [4] (fun vi => ∃ i : Nat, i ≤ 5 ∧ vi = .int .i64 (i : Nat)) (fun vi => (5 - intOf vi).toNat)
  case atStart => exact ⟨0, by omega, rfl⟩
  case round =>
    obtain ⟨i, hi, rfl⟩ := hrel
    by_cases hi5 : i = 5
    · subst hi5
      rw [show ((5 : Nat) : Int) = 5 from rfl]
      go_wp2_with fail
      have S1 : Kp w [(w.heap.size, nums .u8 s), (w1.heap.size, nums .u64 l)] (w2.drewN 1) := ⟨O2.drewN 1, fun p hp => by
        simp only [List.mem_cons, List.not_mem_nil, or_false] at hp
        rcases hp with rfl | rfl
        · exact (R2.out.drewN 1).rng
        · exact (L2.out.drewN 1).rng⟩
      refine Ssy.region (Ext := Old) (Kp w [(w.heap.size, nums .u8 s), (w1.heap.size, nums .u64 l)]) [15, 16, 17, 18, 19, 20, 21, 2]
        [(15, Ssx.cst (.bool true)), (16, Ssx.cst (.bool true)), (17, Ssx.cst (.agg (nums .u64 l).toArray)), (18, Ssx.cst (.agg (nums .u8 s).toArray)), (19, Ssx.cst (.agg (nums .u64 l).toArray)), (20, Ssx.cst (.bool true)), (21, Ssx.cst (.bool true)), (2, Ssx.cst (.bool true))]
        [(16, some true)] (by kernel_rfl) (by kernel_rfl) (by kernel_rfl) ?told (by kernel_rfl) (by kernel_rfl) (by kernel_rfl) Old.refl S1 ?good ?behind
      case told =>
        intro p hp
        simp only [List.mem_cons, List.not_mem_nil, or_false] at hp
        rcases hp with rfl
        exact fun v w => Iff.rfl
      case good =>
        refine ⟨.inr ⟨by kernel_rfl, ?_⟩, .inr ⟨by kernel_rfl, Ssx.mv Old.refl rfl rfl (fun _ _ h => h)⟩, .inr ⟨by kernel_rfl, Ssx.whole Old.refl rfl rfl w1.heap.size (nums .u64 l) (fun _ _ h => h) (fun _ h => h.has _ (.tail _ (.head _))) Try.underlying24 rfl (info5 LL.out) (fun _ => rfl)⟩,
          .inr ⟨by kernel_rfl, Ssx.whole Old.refl rfl rfl w.heap.size (nums .u8 s) (fun _ _ h => h) (fun _ h => h.has _ (.head _)) Try.underlying22 rfl (info32 HL.out) (fun _ => rfl)⟩, .inr ⟨by kernel_rfl, ?_⟩,
          .inr ⟨by kernel_rfl, Ssy.eqv Old.refl rfl rfl (by kernel_rfl) (nums .u64 l).toArray (nums .u64 l).toArray true (fun _ _ h => h) (fun _ _ h => h) (fun w => by have := eq5 l l LL.out LL.out w; rw [show decide (l = l) = true by simp] at this; exact this) (fun _ => rfl)⟩,
          .inr ⟨by kernel_rfl, Ssx.and Old.refl rfl rfl (fun _ _ h => h) (fun _ _ h => h)⟩, .inr ⟨by kernel_rfl, Ssx.asg Old.refl rfl rfl (fun _ _ h => h)⟩, trivial⟩
        · refine Ssx.call rfl fun a w' hC hop => ⟨8, #[], by simp [go_sem], ?_⟩
          exact (awake8 KK.out w').mono fun _ _ ⟨h1, h2⟩ => ⟨_, h1, hC.mono h2, h2, rfl⟩
        · refine Ssx.call rfl fun a w' hC hop => ⟨9, #[.agg (nums .u8 s).toArray], ?_, ?_⟩
          · have h1 : a.eval (.tmp 18) = .agg (nums .u8 s).toArray := hop 18 (by simp [Op.operands, Call.operands])
            simp [Act.eval] at h1
            simp [h1, go_sem]
          · exact (C2.out w').mono fun _ _ ⟨h1, h2⟩ => ⟨_, h1, hC.mono h2, h2, rfl⟩
      case behind =>
        intro vals w' hC hv
        have h6 : vals 2 = .bool true := hv _ (.tail _ (.tail _ (.tail _ (.tail _ (.tail _ (.tail _ (.tail _ (.head _))))))))
        have hol := hC.old
        clear hC hv
        simp only [Ssa.putAll, List.map_cons, List.map_nil, List.foldl_cons, List.foldl_nil, List.setIfInBounds_toArray, List.set_cons_succ, List.set_cons_zero]
        rename_i Q0 K0 hK hT
        refine hK _ w' ?_
        clear hK
        rw [h6]
        go_wp2
        go_ret
        exact ⟨rfl, hol⟩
    · have hil : i < 5 := by omega
      have i0 : (0 : Int) ≤ i := by omega
      have i1 : (i : Int) < 5 := by omega
      have d0 : decide ((i : Int) < 5) = true := decide_eq_true i1
      obtain ⟨y, Hy, cy⟩ := L2.out.num (i := i) (by rw [LL.out]; exact hil)
      have ly := LT.out y (List.mem_of_getElem? Hy.out)
      have d1 : decide ((2305843009213693951 : Int) ≤ y) = false := decide_eq_false (by omega)
      clear ly
      go_wp2
      go_round
      case rel => exact ⟨i + 1, by omega, by go_num⟩
      case measure => simp [intOf]; omega
end Go.Proofs.Ytienijnggccnfaa
