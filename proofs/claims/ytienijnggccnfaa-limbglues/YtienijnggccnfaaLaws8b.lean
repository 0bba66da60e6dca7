/-
  The walks of layer 8's statements LimbGlues, LimbBack, LimbApart, if the layer's calls are what they owe.
-/
import Derived.Test.YtienijnggccnfaaLaws8
namespace Go.Proofs.Ytienijnggccnfaa
open Go.RowKit Limb
set_option linter.unusedVariables false

set_option maxHeartbeats 2000000 in
theorem walkK_LimbGlues (K : LimbK) (v0 : Value) (w : World) (w0 : IsArr .u64 18446744073709551616 5 v0) :
    Calls Try.prog 4 #[v0] w fun e w' => e = .returned (.bool true) ∧ Old w w' := by
  obtain ⟨l, rfl, hl, hb⟩ := w0
  have KK := hide K
  have HL := hide hl
  have R0 : Hid (Row (w.alloc (.cells (nums .u64 l).toArray 24)) w.heap.size 24 (nums .u64 l)) := Row.new _ _ _
  have C1 := hide (K.glue l hl hb)
  have C2 : Hid (∀ w, Calls Try.prog 11 #[.agg (nums .u64 l).toArray] w fun e w' => e = .returned (.tuple #[.agg (nums .u8 (glueS l)).toArray, .bool (glueOk l)]) ∧ Old w w') := fun w => refGlue_any l hl hb w
  have GL := hide (glueS_length l)
  have GZ : Hid (glueOk l = false → glueS l = z32) := fun h => by unfold glueS; rw [if_neg (by rw [h]; simp)]; rfl
  have GE : Hid (glueE l = if glueOk l = true then 0 else 4) := rfl
  clear K hl hb
  revert C1 C2 GL GZ GE
  generalize glueS l = g
  generalize glueE l = ee
  intro C1 C2 GL GZ GE
  by_cases hok : glueOk l = true
  · rw [hok] at C2 GE
    obtain rfl : ee = 0 := GE.out
    clear GE GZ hok
    go_enter Try.func4, Try.ntmps4
    go_wp2_with (refine wp_load_whole rfl 24 _ rfl w.heap.size rfl R0.out Try.underlying24 rfl (info5 HL.out) ?_)
    refine (C1.out _).mono ?_
    rintro e w1 ⟨rfl, o1⟩
    have R1 := hide (R0.out.mono o1)
    have O1 := (Old.of_alloc w (.cells (nums .u64 l).toArray 24)).trans o1
    clear R0 o1 C1
    have Z1 : Hid (Row (w1.alloc (.cells (nums .u8 z32).toArray 26)) w1.heap.size 26 (nums .u8 z32)) := Row.new _ _ _
    go_wp2_with (first
      | (refine wp_store_whole rfl 26 _ _ rfl w1.heap.size rfl (nums .u8 g) rfl Z1.out (infoS GL.out) (by rw [nums_length, nums_length, GL.out]; rfl) (nums_oneCell _ _) ?_; rintro w2 h2
         have S2 : Hid (Row w2 w1.heap.size 26 (nums .u8 g)) := by show Row _ _ _ _; rw [h2]; exact Z1.out.whole _
         have o2 : Old w1 w2 := by rw [h2]; exact (Old.of_alloc _ _).grown (grown_setRow _ _ _) (Nat.le_refl _)
         have R2 := hide (R1.out.mono o2)
         have O2 := O1.trans o2
         clear h2 o2 R1 O1 Z1)
      | refine wp_load_whole rfl 24 _ rfl w.heap.size rfl R2.out Try.underlying24 rfl (info5 HL.out) ?_)
    refine (C2.out _).mono ?_
    rintro e w3 ⟨rfl, o3⟩
    have S3 := hide (S2.out.mono o3)
    have O3 := O2.trans o3
    clear R2 S2 O2 o3 C2
    have Z3 : Hid (Row (w3.alloc (.cells (nums .u8 z32).toArray 22)) w3.heap.size 22 (nums .u8 z32)) := Row.new _ _ _
    go_wp2_with (first
      | (refine wp_store_whole rfl 22 _ _ rfl w3.heap.size rfl (nums .u8 g) rfl Z3.out (info32 GL.out) (by rw [nums_length, nums_length, GL.out]; rfl) (nums_oneCell _ _) ?_; rintro w4 h4
         have T4 : Hid (Row w4 w3.heap.size 22 (nums .u8 g)) := by show Row _ _ _ _; rw [h4]; exact Z3.out.whole _
         have o4 : Old w3 w4 := by rw [h4]; exact (Old.of_alloc _ _).grown (grown_setRow _ _ _) (Nat.le_refl _)
         have S4 := hide (S3.out.mono o4)
         have O4 := O3.trans o4
         clear h4 o4 S3 O3 Z3))
    refine (awake8 KK.out _).mono ?_
    rintro e w5 ⟨rfl, o5⟩
    have S5 := hide (S4.out.mono o5)
    have T5 := hide (T4.out.mono o5)
    have O5 := O4.trans o5
    clear S4 T4 O4 o5
    have EQ : Hid (∀ w, (Op.equalIn 10000 26 (.agg (nums .u8 g).toArray) (.agg (nums .u8 g).toArray)).run Try.prog w = .ok true w) := fun w => by
      have := eqS g g GL.out GL.out w
      rw [show decide (g = g) = true by simp] at this
      exact this
    go_wp2_with (first
      | refine wp_load_whole_g rfl 26 _ rfl w1.heap.size rfl S5.out.rng Try.underlying26 rfl (infoS GL.out) ?_
      | refine wp_load_whole_g rfl 22 _ rfl w3.heap.size rfl T5.out.rng Try.underlying22 rfl (info32 GL.out) ?_
      | refine wp_eq_whole_g rfl 26 _ _ _ rfl (nums .u8 g).toArray (nums .u8 g).toArray rfl rfl (by kernel_rfl) true (EQ.out _) ?_)
    go_ret
    exact ⟨rfl, O5⟩
  · have hok' : glueOk l = false := by simpa using hok
    obtain rfl : g = z32 := GZ.out hok'
    rw [hok'] at C2 GE
    obtain rfl : ee = 4 := GE.out
    clear GE GZ hok hok'
    go_enter Try.func4, Try.ntmps4
    go_wp2_with (refine wp_load_whole rfl 24 _ rfl w.heap.size rfl R0.out Try.underlying24 rfl (info5 HL.out) ?_)
    refine (C1.out _).mono ?_
    rintro e w1 ⟨rfl, o1⟩
    have R1 := hide (R0.out.mono o1)
    have O1 := (Old.of_alloc w (.cells (nums .u64 l).toArray 24)).trans o1
    clear R0 o1 C1
    have Z1 : Hid (Row (w1.alloc (.cells (nums .u8 z32).toArray 26)) w1.heap.size 26 (nums .u8 z32)) := Row.new _ _ _
    go_wp2_with (first
      | (refine wp_store_whole rfl 26 _ _ rfl w1.heap.size rfl (nums .u8 z32) rfl Z1.out (infoS GL.out) rfl (nums_oneCell _ _) ?_; rintro w2 h2
         have S2 : Hid (Row w2 w1.heap.size 26 (nums .u8 z32)) := by show Row _ _ _ _; rw [h2]; exact Z1.out.whole _
         have o2 : Old w1 w2 := by rw [h2]; exact (Old.of_alloc _ _).grown (grown_setRow _ _ _) (Nat.le_refl _)
         have R2 := hide (R1.out.mono o2)
         have O2 := O1.trans o2
         clear h2 o2 R1 O1 Z1)
      | refine wp_load_whole rfl 24 _ rfl w.heap.size rfl R2.out Try.underlying24 rfl (info5 HL.out) ?_)
    refine (C2.out _).mono ?_
    rintro e w3 ⟨rfl, o3⟩
    have S3 := hide (S2.out.mono o3)
    have O3 := O2.trans o3
    clear R2 S2 O2 o3 C2
    have Z3 : Hid (Row (w3.alloc (.cells (nums .u8 z32).toArray 22)) w3.heap.size 22 (nums .u8 z32)) := Row.new _ _ _
    go_wp2_with (first
      | (refine wp_store_whole rfl 22 _ _ rfl w3.heap.size rfl (nums .u8 z32) rfl Z3.out (info32 GL.out) rfl (nums_oneCell _ _) ?_; rintro w4 h4
         have o4 : Old w3 w4 := by rw [h4]; exact (Old.of_alloc _ _).grown (grown_setRow _ _ _) (Nat.le_refl _)
         have S4 := hide (S3.out.mono o4)
         have O4 := O3.trans o4
         clear h4 o4 S3 O3 Z3))
    refine (awake8 KK.out _).mono ?_
    rintro e w5 ⟨rfl, o5⟩
    have S5 := hide (S4.out.mono o5)
    have O5 := O4.trans o5
    clear S4 O4 o5
    have EQ : Hid (∀ w, (Op.equalIn 10000 26 (.agg (nums .u8 z32).toArray) (.agg (nums .u8 z32).toArray)).run Try.prog w = .ok true w) := fun w => by
      have := eqS z32 z32 rfl rfl w
      rw [show decide (z32 = z32) = true by simp] at this
      exact this
    go_wp2_with (first
      | refine wp_load_whole_g rfl 26 _ rfl w1.heap.size rfl S5.out.rng Try.underlying26 rfl (infoS rfl) ?_
      | refine wp_eq_whole_g rfl 26 _ _ _ rfl (nums .u8 z32).toArray (nums .u8 z32).toArray rfl rfl (by kernel_rfl) true (EQ.out _) ?_)
    go_ret
    exact ⟨rfl, O5⟩

set_option maxHeartbeats 2000000 in
theorem walkK_LimbApart (K : LimbK) (v0 v1 : Value) (w : World) (w0 : IsArr .u8 256 32 v0) (w1 : IsArr .u8 256 32 v1) :
    Calls Try.prog 6 #[v0, v1] w fun e w' => e = .returned (.bool true) ∧ Old w w' := by
  obtain ⟨s, rfl, hl, hb⟩ := w0
  obtain ⟨t, rfl, ml, mb⟩ := w1
  have KK := hide K
  have HL := hide hl
  have ML := hide ml
  have C1 := hide (K.cut s hl hb)
  have C2 := hide (K.cut t ml mb)
  have E1 : Hid (∀ w, (Op.equalIn 10000 24 (.agg (nums .u64 (cutL s)).toArray) (.agg (nums .u64 (cutL t)).toArray)).run Try.prog w = .ok (decide (s = t)) w) := fun w => by
    have := eq5 (cutL s) (cutL t) (cutL_length s) (cutL_length t) w
    rw [show decide (cutL s = cutL t) = decide (s = t) by rw [decide_eq_decide]; exact cut_inj hl ml hb mb] at this
    exact this
  have E2 : Hid (∀ w, (Op.equalIn 10000 22 (.agg (nums .u8 s).toArray) (.agg (nums .u8 t).toArray)).run Try.prog w = .ok (decide (s = t)) w) := fun w => eq32 s t hl ml w
  clear K hl hb ml mb
  revert C1 C2 E1 E2
  generalize cutL s = cs
  generalize cutL t = ct
  generalize decide (s = t) = b
  intro C1 C2 E1 E2
  have S0 : Kp w [(w.heap.size, nums .u8 s), (w.heap.size + 1, nums .u8 t)] (((w.alloc (.cells (nums .u8 s).toArray 22)).alloc (.cells (nums .u8 t).toArray 22)).drewN 1) := by
    have B := Row.new (w.alloc (.cells (nums .u8 s).toArray 22)) 22 (nums .u8 t)
    rw [size_allocL] at B
    have A0 := (Row.new w 22 (nums .u8 s)).mono (Old.of_alloc _ (.cells (nums .u8 t).toArray 22))
    exact ⟨((Old.of_alloc _ _).alloc _).drewN 1, fun p hp => by
      simp only [List.mem_cons, List.not_mem_nil, or_false] at hp
      rcases hp with rfl | rfl
      · exact (A0.drewN 1).rng
      · exact (B.drewN 1).rng⟩
  have S1 := hide S0
  clear S0
  go_enter Try.func6, Try.ntmps6
  go_wp2_with fail
  refine Ssy.region (Ext := Old) (Kp w [(w.heap.size, nums .u8 s), (w.heap.size + 1, nums .u8 t)]) [5, 6, 7, 8, 9, 10, 11, 12, 13, 14, 15, 16, 4]
    [(5, Ssx.cst (.bool true)), (6, Ssx.cst (.bool true)), (7, Ssx.cst (.agg (nums .u8 s).toArray)), (8, Ssx.cst (.agg (nums .u64 cs).toArray)), (9, Ssx.cst (.agg (nums .u8 t).toArray)), (10, Ssx.cst (.agg (nums .u64 ct).toArray)), (11, Ssx.cst (.bool b)), (12, Ssx.cst (.agg (nums .u8 s).toArray)), (13, Ssx.cst (.agg (nums .u8 t).toArray)), (14, Ssx.cst (.bool b)), (15, Ssx.cst (.bool true)), (16, Ssx.cst (.bool true)), (4, Ssx.cst (.bool true))]
    [(6, some true)] (by kernel_rfl) (by kernel_rfl) (by kernel_rfl) ?told (by kernel_rfl) (by kernel_rfl) (by kernel_rfl) Old.refl S1.out ?good ?behind
  case told =>
    intro p hp
    simp only [List.mem_cons, List.not_mem_nil, or_false] at hp
    rcases hp with rfl <;> exact fun v w => Iff.rfl
  case good =>
    refine And.intro (.inr ⟨by kernel_rfl, Ssx.call rfl fun a w' hC hop => ⟨8, #[], ?_, ?_⟩⟩) ?_
    · simp [go_sem]
    · exact (awake8 KK.out w').mono fun _ _ ⟨h1, h2⟩ => ⟨_, h1, hC.mono h2, h2, rfl⟩
    refine And.intro (.inr ⟨by kernel_rfl, Ssx.mv Old.refl rfl rfl (fun _ _ h => h)⟩) ?_
    refine And.intro (.inr ⟨by kernel_rfl, Ssx.whole Old.refl rfl rfl (w.heap.size) (nums .u8 s) (fun _ _ h => h) (fun _ h => h.has _ (.head _)) Try.underlying22 rfl (info32 HL.out) (fun _ => rfl)⟩) ?_
    refine And.intro (.inr ⟨by kernel_rfl, Ssx.call rfl fun a w' hC hop => ⟨7, #[.agg (nums .u8 s).toArray], ?_, ?_⟩⟩) ?_
    · have h0 : a.eval (.tmp 7) = .agg (nums .u8 s).toArray := hop 7 (by simp [Op.operands, Call.operands])
      simp [Act.eval] at h0
      simp [h0, go_sem]
    · exact (C1.out w').mono fun _ _ ⟨h1, h2⟩ => ⟨_, h1, hC.mono h2, h2, rfl⟩
    refine And.intro (.inr ⟨by kernel_rfl, Ssx.whole Old.refl rfl rfl (w.heap.size + 1) (nums .u8 t) (fun _ _ h => h) (fun _ h => h.has _ (.tail _ (.head _))) Try.underlying22 rfl (info32 ML.out) (fun _ => rfl)⟩) ?_
    refine And.intro (.inr ⟨by kernel_rfl, Ssx.call rfl fun a w' hC hop => ⟨7, #[.agg (nums .u8 t).toArray], ?_, ?_⟩⟩) ?_
    · have h0 : a.eval (.tmp 9) = .agg (nums .u8 t).toArray := hop 9 (by simp [Op.operands, Call.operands])
      simp [Act.eval] at h0
      simp [h0, go_sem]
    · exact (C2.out w').mono fun _ _ ⟨h1, h2⟩ => ⟨_, h1, hC.mono h2, h2, rfl⟩
    refine And.intro (.inr ⟨by kernel_rfl, Ssy.eqv Old.refl rfl rfl (by kernel_rfl) ((nums .u64 cs).toArray) ((nums .u64 ct).toArray) b (fun _ _ h => h) (fun _ _ h => h) (E1.out) (fun _ => rfl)⟩) ?_
    refine And.intro (.inr ⟨by kernel_rfl, Ssx.whole Old.refl rfl rfl (w.heap.size) (nums .u8 s) (fun _ _ h => h) (fun _ h => h.has _ (.head _)) Try.underlying22 rfl (info32 HL.out) (fun _ => rfl)⟩) ?_
    refine And.intro (.inr ⟨by kernel_rfl, Ssx.whole Old.refl rfl rfl (w.heap.size + 1) (nums .u8 t) (fun _ _ h => h) (fun _ h => h.has _ (.tail _ (.head _))) Try.underlying22 rfl (info32 ML.out) (fun _ => rfl)⟩) ?_
    refine And.intro (.inr ⟨by kernel_rfl, Ssy.eqv Old.refl rfl rfl (by kernel_rfl) ((nums .u8 s).toArray) ((nums .u8 t).toArray) b (fun _ _ h => h) (fun _ _ h => h) (E2.out) (fun _ => rfl)⟩) ?_
    refine And.intro (.inr ⟨by kernel_rfl, Ssx.val2 Old.refl (x := 11) (y := 14) (.bool b) (.bool b) (by simp [Op.operands]) (by simp [Op.operands]) rfl (fun _ _ h => h) (fun _ _ h => h) (fun ρ h1 h2 hc w => by unfold execOp; simp [h1, h2, go_sem]) (fun _ => rfl)⟩) ?_
    refine And.intro (.inr ⟨by kernel_rfl, Ssx.and Old.refl rfl rfl (fun _ _ h => h) (fun _ _ h => h)⟩) ?_
    refine And.intro (.inr ⟨by kernel_rfl, Ssx.asg Old.refl rfl rfl (fun _ _ h => h)⟩) ?_
    exact trivial
  case behind =>
    intro vals w' hC hv
    have h6 : vals 4 = .bool true := hv _ (.tail _ (.tail _ (.tail _ (.tail _ (.tail _ (.tail _ (.tail _ (.tail _ (.tail _ (.tail _ (.tail _ (.tail _ (.head _)))))))))))))
    have hol := hC.old
    clear hC hv
    simp only [Ssa.putAll, List.map_cons, List.map_nil, List.foldl_cons, List.foldl_nil, List.setIfInBounds_toArray, List.set_cons_succ, List.set_cons_zero]
    rename_i Q0 K0 hK
    refine hK _ w' ?_
    clear hK
    rw [h6]
    go_wp2
    go_ret
    exact ⟨rfl, hol⟩

set_option maxHeartbeats 2000000 in
theorem walkK_LimbBack (K : LimbK) (v0 v1 : Value) (w : World) (w0 : IsArr .u8 256 32 v0) (w1 : IsArr .u64 18446744073709551616 5 v1) :
    Calls Try.prog 5 #[v0, v1] w fun e w' => e = .returned (.bool true) ∧ Old w w' := by
  obtain ⟨s, rfl, hl, hb⟩ := w0
  obtain ⟨l, rfl, ml, mb⟩ := w1
  have KK := hide K
  have HL := hide hl
  have ML := hide ml
  have C1 := hide (K.cut s hl hb)
  have C2 : Hid (∀ w, Calls Try.prog 10 #[.agg (nums .u64 (cutL s)).toArray] w fun e w' => e = .returned (.tuple #[.agg (nums .u8 s).toArray, .int .i64 0]) ∧ Old w w') := fun w => by
    have := K.glue (cutL s) (cutL_length s) (fun x hx => by have := cutL_lt hb x hx; omega) w
    unfold glueS glueE at this
    rw [if_pos (cut_ok hl hb), if_pos (cut_ok hl hb), glue_cut hl hb] at this
    exact this
  have C3 := hide (K.glue l ml mb)
  have C4 : Hid (glueOk l = true → ∀ w, Calls Try.prog 7 #[.agg (nums .u8 (glueS l)).toArray] w fun e w' => e = .returned (.agg (nums .u64 l).toArray) ∧ Old w w') := fun h w => by
    have := K.cut (glueS l) (glueS_length l) (glueS_lt l) w
    have e : glueS l = glueL l := by unfold glueS; rw [if_pos h]
    rw [show cutL (glueS l) = l by rw [e]; exact cut_glue ml h] at this
    exact this
  have GL := hide (glueS_length l)
  have GE : Hid (glueE l = if glueOk l = true then 0 else 4) := rfl
  have E1 : Hid (∀ w, (Op.equalIn 10000 26 (.agg (nums .u8 s).toArray) (.agg (nums .u8 s).toArray)).run Try.prog w = .ok true w) := fun w => by
    have := eqS s s hl hl w
    rw [show decide (s = s) = true by simp] at this
    exact this
  have E2 : Hid (∀ w, (Op.equalIn 10000 24 (.agg (nums .u64 l).toArray) (.agg (nums .u64 l).toArray)).run Try.prog w = .ok true w) := fun w => by
    have := eq5 l l ml ml w
    rw [show decide (l = l) = true by simp] at this
    exact this
  have R0 : Hid (Row ((w.alloc (.cells (nums .u8 s).toArray 22)).alloc (.cells (nums .u64 l).toArray 24)) w.heap.size 22 (nums .u8 s)) := (Row.new w 22 (nums .u8 s)).mono (Old.of_alloc _ _)
  have L0 : Hid (Row ((w.alloc (.cells (nums .u8 s).toArray 22)).alloc (.cells (nums .u64 l).toArray 24)) (w.heap.size + 1) 24 (nums .u64 l)) := by
    have B := Row.new (w.alloc (.cells (nums .u8 s).toArray 22)) 24 (nums .u64 l)
    rw [size_allocL] at B
    exact B
  have O0 := (Old.of_alloc w (.cells (nums .u8 s).toArray 22)).alloc (.cells (nums .u64 l).toArray 24)
  clear K hl hb ml mb
  revert C1 C2 C3 C4 GL GE
  generalize cutL s = cs
  generalize glueS l = g
  generalize glueE l = ee
  intro C1 C2 C3 C4 GL GE
  go_enter Try.func5, Try.ntmps5
  go_wp2_with (refine wp_load_whole rfl 22 _ rfl w.heap.size rfl R0.out Try.underlying22 rfl (info32 HL.out) ?_)
  refine (C1.out _).mono ?_
  rintro e w1 ⟨rfl, o1⟩
  go_wp2_with fail
  refine (C2.out _).mono ?_
  rintro e w2 ⟨rfl, o2⟩
  have R2 := hide ((R0.out.mono o1).mono o2)
  have L2 := hide ((L0.out.mono o1).mono o2)
  have O2 := (O0.trans o1).trans o2
  clear R0 L0 O0 o1 o2 C1 C2
  have Z2 : Hid (Row (w2.alloc (.cells (nums .u8 z32).toArray 26)) w2.heap.size 26 (nums .u8 z32)) := Row.new _ _ _
  go_wp2_with (first
    | (refine wp_store_whole rfl 26 _ _ rfl w2.heap.size rfl (nums .u8 s) rfl Z2.out (infoS HL.out) (by rw [nums_length, nums_length, HL.out]; rfl) (nums_oneCell _ _) ?_; rintro w3 h3
       have S3 : Hid (Row w3 w2.heap.size 26 (nums .u8 s)) := by show Row _ _ _ _; rw [h3]; exact Z2.out.whole _
       have o3 : Old w2 w3 := by rw [h3]; exact (Old.of_alloc _ _).grown (grown_setRow _ _ _) (Nat.le_refl _)
       have R3 := hide (R2.out.mono o3)
       have L3 := hide (L2.out.mono o3)
       have O3 := O2.trans o3
       clear h3 o3 R2 L2 O2 Z2)
    | refine wp_load_whole rfl 24 _ rfl (w.heap.size + 1) rfl L3.out Try.underlying24 rfl (info5 ML.out) ?_)
  refine (C3.out _).mono ?_
  rintro e w4 ⟨rfl, o4⟩
  have R4 := hide (R3.out.mono o4)
  have L4 := hide (L3.out.mono o4)
  have S4 := hide (S3.out.mono o4)
  have O4 := O3.trans o4
  clear R3 L3 S3 O3 o4 C3
  have Z4 : Hid (Row (w4.alloc (.cells (nums .u8 z32).toArray 26)) w4.heap.size 26 (nums .u8 z32)) := Row.new _ _ _
  go_wp2_with (first
    | (refine wp_store_whole rfl 26 _ _ rfl w4.heap.size rfl (nums .u8 g) rfl Z4.out (infoS GL.out) (by rw [nums_length, nums_length, GL.out]; rfl) (nums_oneCell _ _) ?_; rintro w5 h5
       have G5 : Hid (Row w5 w4.heap.size 26 (nums .u8 g)) := by show Row _ _ _ _; rw [h5]; exact Z4.out.whole _
       have o5 : Old w4 w5 := by rw [h5]; exact (Old.of_alloc _ _).grown (grown_setRow _ _ _) (Nat.le_refl _)
       have R5 := hide (R4.out.mono o5)
       have L5 := hide (L4.out.mono o5)
       have S5 := hide (S4.out.mono o5)
       have O5 := O4.trans o5
       clear h5 o5 R4 L4 S4 O4 Z4))
  have S1 : Hid (Kp w [(w.heap.size, nums .u8 s), (w.heap.size + 1, nums .u64 l), (w2.heap.size, nums .u8 s), (w4.heap.size, nums .u8 g)] (w5.drewN 1)) := ⟨O5.drewN 1, fun p hp => by
    simp only [List.mem_cons, List.not_mem_nil, or_false] at hp
    rcases hp with rfl | rfl | rfl | rfl
    · exact (R5.out.drewN 1).rng
    · exact (L5.out.drewN 1).rng
    · exact (S5.out.drewN 1).rng
    · exact (G5.out.drewN 1).rng⟩
  clear R5 L5 S5 G5 O5
  by_cases hok : glueOk l = true
  · have C5 := hide (C4.out hok)
    rw [hok] at GE
    obtain rfl : ee = 0 := GE.out
    clear C4 GE hok
    refine Ssy.region (Ext := Old) (Kp w [(w.heap.size, nums .u8 s), (w.heap.size + 1, nums .u64 l), (w2.heap.size, nums .u8 s), (w4.heap.size, nums .u8 g)]) [20, 21, 22, 23, 24, 25, 26, 27, 28, 29, 30, 31, 32, 33, 34, 35, 36, 37, 38, 39, 4]
      [(20, Ssx.cst (.bool true)), (21, Ssx.cst (.bool true)), (22, Ssx.cst (.int .i64 0)), (23, Ssx.cst (.bool true)), (24, Ssx.cst (.bool true)), (25, Ssx.cst (.bool true)), (26, Ssx.cst (.agg (nums .u8 s).toArray)), (27, Ssx.cst (.agg (nums .u8 s).toArray)), (28, Ssx.cst (.bool true)), (29, Ssx.cst (.bool true)), (30, Ssx.cst (.bool true)), (31, Ssx.cst (.int .i64 0)), (32, Ssx.cst (.bool false)), (33, Ssx.cst (.bool false)), (34, Ssx.cst (.agg (nums .u8 g).toArray)), (35, Ssx.cst (.agg (nums .u64 l).toArray)), (36, Ssx.cst (.agg (nums .u64 l).toArray)), (37, Ssx.cst (.bool true)), (38, Ssx.cst (.bool true)), (39, Ssx.cst (.bool true)), (4, Ssx.cst (.bool true))]
      [(21, some true), (25, some true), (30, some true), (33, some false)] (by kernel_rfl) (by kernel_rfl) (by kernel_rfl) ?told (by kernel_rfl) (by kernel_rfl) (by kernel_rfl) Old.refl S1.out ?good ?behind
    case told =>
      intro p hp
      simp only [List.mem_cons, List.not_mem_nil, or_false] at hp
      rcases hp with rfl | rfl | rfl | rfl <;> exact fun v w => Iff.rfl
    case good =>
      refine And.intro (.inr ⟨by kernel_rfl, Ssx.call rfl fun a w' hC hop => ⟨8, #[], ?_, ?_⟩⟩) ?_
      · simp [go_sem]
      · exact (awake8 KK.out w').mono fun _ _ ⟨h1, h2⟩ => ⟨_, h1, hC.mono h2, h2, rfl⟩
      refine And.intro (.inr ⟨by kernel_rfl, Ssx.mv Old.refl rfl rfl (fun _ _ h => h)⟩) ?_
      refine And.intro (.inr ⟨by kernel_rfl, Ssx.mv Old.refl rfl rfl (fun _ _ h => h)⟩) ?_
      refine And.intro (.inr ⟨by kernel_rfl, Ssx.val1 Old.refl (x := 22) (.int .i64 0) (by simp [Op.operands]) rfl (fun _ _ h => h) (fun ρ h1 hc w => by unfold execOp; simp [h1, hc, go_sem]) (fun _ => rfl)⟩) ?_
      refine And.intro (.inr ⟨by kernel_rfl, Ssx.and Old.refl rfl rfl (fun _ _ h => h) (fun _ _ h => h)⟩) ?_
      refine And.intro (.inr ⟨by kernel_rfl, Ssx.mv Old.refl rfl rfl (fun _ _ h => h)⟩) ?_
      refine And.intro (.inr ⟨by kernel_rfl, Ssx.whole Old.refl rfl rfl (w2.heap.size) (nums .u8 s) (fun _ _ h => h) (fun _ h => h.has _ (.tail _ (.tail _ (.head _)))) Try.underlying26 rfl (infoS HL.out) (fun _ => rfl)⟩) ?_
      refine And.intro (.inr ⟨by kernel_rfl, Ssx.whole Old.refl rfl rfl (w.heap.size) (nums .u8 s) (fun _ _ h => h) (fun _ h => h.has _ (.head _)) Try.underlying22 rfl (info32 HL.out) (fun _ => rfl)⟩) ?_
      refine And.intro (.inr ⟨by kernel_rfl, Ssy.eqv Old.refl rfl rfl (by kernel_rfl) ((nums .u8 s).toArray) ((nums .u8 s).toArray) true (fun _ _ h => h) (fun _ _ h => h) (E1.out) (fun _ => rfl)⟩) ?_
      refine And.intro (.inr ⟨by kernel_rfl, Ssx.and Old.refl rfl rfl (fun _ _ h => h) (fun _ _ h => h)⟩) ?_
      refine And.intro (.inr ⟨by kernel_rfl, Ssx.mv Old.refl rfl rfl (fun _ _ h => h)⟩) ?_
      refine And.intro (.inr ⟨by kernel_rfl, Ssx.mv Old.refl rfl rfl (fun _ _ h => h)⟩) ?_
      refine And.intro (.inr ⟨by kernel_rfl, Ssx.val1 Old.refl (x := 31) (.int .i64 0) (by simp [Op.operands]) rfl (fun _ _ h => h) (fun ρ h1 hc w => by unfold execOp; simp [h1, hc, go_sem]) (fun _ => rfl)⟩) ?_
      refine And.intro (.inr ⟨by kernel_rfl, Ssx.mv Old.refl rfl rfl (fun _ _ h => h)⟩) ?_
      refine And.intro (.inr ⟨by kernel_rfl, Ssx.whole Old.refl rfl rfl (w4.heap.size) (nums .u8 g) (fun _ _ h => h) (fun _ h => h.has _ (.tail _ (.tail _ (.tail _ (.head _))))) Try.underlying26 rfl (infoS GL.out) (fun _ => rfl)⟩) ?_
      refine And.intro (.inr ⟨by kernel_rfl, Ssx.call rfl fun a w' hC hop => ⟨7, #[.agg (nums .u8 g).toArray], ?_, ?_⟩⟩) ?_
      · have h0 : a.eval (.tmp 34) = .agg (nums .u8 g).toArray := hop 34 (by simp [Op.operands, Call.operands])
        simp [Act.eval] at h0
        simp [h0, go_sem]
      · exact (C5.out w').mono fun _ _ ⟨h1, h2⟩ => ⟨_, h1, hC.mono h2, h2, rfl⟩
      refine And.intro (.inr ⟨by kernel_rfl, Ssx.whole Old.refl rfl rfl (w.heap.size + 1) (nums .u64 l) (fun _ _ h => h) (fun _ h => h.has _ (.tail _ (.head _))) Try.underlying24 rfl (info5 ML.out) (fun _ => rfl)⟩) ?_
      refine And.intro (.inr ⟨by kernel_rfl, Ssy.eqv Old.refl rfl rfl (by kernel_rfl) ((nums .u64 l).toArray) ((nums .u64 l).toArray) true (fun _ _ h => h) (fun _ _ h => h) (E2.out) (fun _ => rfl)⟩) ?_
      refine And.intro (.inr ⟨by kernel_rfl, Ssx.or Old.refl rfl rfl (fun _ _ h => h) (fun _ _ h => h)⟩) ?_
      refine And.intro (.inr ⟨by kernel_rfl, Ssx.and Old.refl rfl rfl (fun _ _ h => h) (fun _ _ h => h)⟩) ?_
      refine And.intro (.inr ⟨by kernel_rfl, Ssx.asg Old.refl rfl rfl (fun _ _ h => h)⟩) ?_
      exact trivial
    case behind =>
      intro vals w' hC hv
      have h6 : vals 4 = .bool true := hv _ (.tail _ (.tail _ (.tail _ (.tail _ (.tail _ (.tail _ (.tail _ (.tail _ (.tail _ (.tail _ (.tail _ (.tail _ (.tail _ (.tail _ (.tail _ (.tail _ (.tail _ (.tail _ (.tail _ (.tail _ (.head _)))))))))))))))))))))
      have hol := hC.old
      clear hC hv
      simp only [Ssa.putAll, List.map_cons, List.map_nil, List.foldl_cons, List.foldl_nil, List.setIfInBounds_toArray, List.set_cons_succ, List.set_cons_zero]
      rename_i Q0 K0 hK
      refine hK _ w' ?_
      clear hK
      rw [h6]
      go_wp2
      go_ret
      exact ⟨rfl, hol⟩
  · have hok' : glueOk l = false := by simpa using hok
    rw [hok'] at GE
    obtain rfl : ee = 4 := GE.out
    clear C4 GE hok hok'
    refine Ssy.region (Ext := Old) (Kp w [(w.heap.size, nums .u8 s), (w.heap.size + 1, nums .u64 l), (w2.heap.size, nums .u8 s), (w4.heap.size, nums .u8 g)]) [20, 21, 22, 23, 24, 25, 26, 27, 28, 29, 30, 31, 32, 33, 34, 35, 36, 37, 38, 39, 4]
      [(20, Ssx.cst (.bool true)), (21, Ssx.cst (.bool true)), (22, Ssx.cst (.int .i64 0)), (23, Ssx.cst (.bool true)), (24, Ssx.cst (.bool true)), (25, Ssx.cst (.bool true)), (26, Ssx.cst (.agg (nums .u8 s).toArray)), (27, Ssx.cst (.agg (nums .u8 s).toArray)), (28, Ssx.cst (.bool true)), (29, Ssx.cst (.bool true)), (30, Ssx.cst (.bool true)), (31, Ssx.cst (.int .i64 4)), (32, Ssx.cst (.bool true)), (33, Ssx.cst (.bool true)), (34, Ssx.cst (undef)), (35, Ssx.cst (undef)), (36, Ssx.cst (undef)), (37, Ssx.cst (undef)), (38, Ssx.cst (.bool true)), (39, Ssx.cst (.bool true)), (4, Ssx.cst (.bool true))]
      [(21, some true), (25, some true), (30, some true), (33, some true), (34, none), (35, none), (36, none), (37, none)] (by kernel_rfl) (by kernel_rfl) (by kernel_rfl) ?told (by kernel_rfl) (by kernel_rfl) (by kernel_rfl) Old.refl S1.out ?good ?behind
    case told =>
      intro p hp
      simp only [List.mem_cons, List.not_mem_nil, or_false] at hp
      rcases hp with rfl | rfl | rfl | rfl | rfl | rfl | rfl | rfl <;> exact fun v w => Iff.rfl
    case good =>
      refine And.intro (.inr ⟨by kernel_rfl, Ssx.call rfl fun a w' hC hop => ⟨8, #[], ?_, ?_⟩⟩) ?_
      · simp [go_sem]
      · exact (awake8 KK.out w').mono fun _ _ ⟨h1, h2⟩ => ⟨_, h1, hC.mono h2, h2, rfl⟩
      refine And.intro (.inr ⟨by kernel_rfl, Ssx.mv Old.refl rfl rfl (fun _ _ h => h)⟩) ?_
      refine And.intro (.inr ⟨by kernel_rfl, Ssx.mv Old.refl rfl rfl (fun _ _ h => h)⟩) ?_
      refine And.intro (.inr ⟨by kernel_rfl, Ssx.val1 Old.refl (x := 22) (.int .i64 0) (by simp [Op.operands]) rfl (fun _ _ h => h) (fun ρ h1 hc w => by unfold execOp; simp [h1, hc, go_sem]) (fun _ => rfl)⟩) ?_
      refine And.intro (.inr ⟨by kernel_rfl, Ssx.and Old.refl rfl rfl (fun _ _ h => h) (fun _ _ h => h)⟩) ?_
      refine And.intro (.inr ⟨by kernel_rfl, Ssx.mv Old.refl rfl rfl (fun _ _ h => h)⟩) ?_
      refine And.intro (.inr ⟨by kernel_rfl, Ssx.whole Old.refl rfl rfl (w2.heap.size) (nums .u8 s) (fun _ _ h => h) (fun _ h => h.has _ (.tail _ (.tail _ (.head _)))) Try.underlying26 rfl (infoS HL.out) (fun _ => rfl)⟩) ?_
      refine And.intro (.inr ⟨by kernel_rfl, Ssx.whole Old.refl rfl rfl (w.heap.size) (nums .u8 s) (fun _ _ h => h) (fun _ h => h.has _ (.head _)) Try.underlying22 rfl (info32 HL.out) (fun _ => rfl)⟩) ?_
      refine And.intro (.inr ⟨by kernel_rfl, Ssy.eqv Old.refl rfl rfl (by kernel_rfl) ((nums .u8 s).toArray) ((nums .u8 s).toArray) true (fun _ _ h => h) (fun _ _ h => h) (E1.out) (fun _ => rfl)⟩) ?_
      refine And.intro (.inr ⟨by kernel_rfl, Ssx.and Old.refl rfl rfl (fun _ _ h => h) (fun _ _ h => h)⟩) ?_
      refine And.intro (.inr ⟨by kernel_rfl, Ssx.mv Old.refl rfl rfl (fun _ _ h => h)⟩) ?_
      refine And.intro (.inr ⟨by kernel_rfl, Ssx.mv Old.refl rfl rfl (fun _ _ h => h)⟩) ?_
      refine And.intro (.inr ⟨by kernel_rfl, Ssx.val1 Old.refl (x := 31) (.int .i64 4) (by simp [Op.operands]) rfl (fun _ _ h => h) (fun ρ h1 hc w => by unfold execOp; simp [h1, hc, go_sem]) (fun _ => rfl)⟩) ?_
      refine And.intro (.inr ⟨by kernel_rfl, Ssx.mv Old.refl rfl rfl (fun _ _ h => h)⟩) ?_
      refine And.intro (.inl (by kernel_rfl)) ?_
      refine And.intro (.inl (by kernel_rfl)) ?_
      refine And.intro (.inl (by kernel_rfl)) ?_
      refine And.intro (.inl (by kernel_rfl)) ?_
      refine And.intro (.inr ⟨by kernel_rfl, Ssy.or_yes Old.refl rfl rfl (fun _ _ h => h) (fun _ => rfl)⟩) ?_
      refine And.intro (.inr ⟨by kernel_rfl, Ssx.and Old.refl rfl rfl (fun _ _ h => h) (fun _ _ h => h)⟩) ?_
      refine And.intro (.inr ⟨by kernel_rfl, Ssx.asg Old.refl rfl rfl (fun _ _ h => h)⟩) ?_
      exact trivial
    case behind =>
      intro vals w' hC hv
      have h6 : vals 4 = .bool true := hv _ (.tail _ (.tail _ (.tail _ (.tail _ (.tail _ (.tail _ (.tail _ (.tail _ (.tail _ (.tail _ (.tail _ (.tail _ (.tail _ (.tail _ (.tail _ (.tail _ (.tail _ (.tail _ (.tail _ (.tail _ (.head _)))))))))))))))))))))
      have hol := hC.old
      clear hC hv
      simp only [Ssa.putAll, List.map_cons, List.map_nil, List.foldl_cons, List.foldl_nil, List.setIfInBounds_toArray, List.set_cons_succ, List.set_cons_zero]
      rename_i Q0 K0 hK
      refine hK _ w' ?_
      clear hK
      rw [h6]
      go_wp2
      go_ret
      exact ⟨rfl, hol⟩
end Go.Proofs.Ytienijnggccnfaa
