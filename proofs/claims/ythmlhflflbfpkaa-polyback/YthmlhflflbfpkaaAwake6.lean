/-
  The fixed fact of layer 6's statements (offertorylaw06.awake) is true if its calls are what they owe.
-/
import Derived.Test.YthmlhflflbfpkaaPolyC
namespace Go.Proofs.Ythmlhflflbfpkaa
open Go.RowKit M Pm
set_option linter.unusedVariables false

namespace Aw6
def ps : List Pt := [(1, 5), (2, 9)]
theorem err : errOf ps = 0 := by decide
theorem poly14 {s : List Nat} {k : Nat} (hl : s.length = k) (hk : k ≤ 2) (lt : ∀ y ∈ s, y < 2305843009213693951) (ti : Tight (s.map F)) (h : ∀ j, j < 2 → ev (s.map F) (ptX ps j) = ptY ps j) : s = [1, 4] := by
  have hnd : [F 1, F 2].Nodup := by decide
  have e : s.map F = [1, 4].map F := by
    refine same_list hnd (by simpa using (by omega : s.length ≤ 2)) (by simp) ?_ ti (by intro c hc; simp at hc; subst hc; decide)
    intro x hx
    simp only [List.mem_cons, List.not_mem_nil, or_false] at hx
    rcases hx with rfl | rfl
    · exact (h 0 (by omega)).trans (by decide)
    · exact (h 1 (by omega)).trans (by decide)
  have key := same_nat (n := 2) (l := s) (m := [1, 4]) (by omega) (by omega) (by simp) lt (by decide) (fun x => by rw [e]) ti (by intro c hc; simp at hc; subst hc; decide)
  exact key
theorem tight14 : Tight ([1, 4].map F) := by intro c hc; simp at hc; subst hc; decide
theorem tight1816 : Tight ([1, 8, 16].map F) := by intro c hc; simp at hc; subst hc; decide
theorem tight04 : Tight ([0, 4].map F) := by intro c hc; simp at hc; subst hc; decide
theorem mul_ev (x : Fp) : ev ([1, 8, 16].map F) x = ev ([1, 4].map F) x * ev ([1, 4].map F) x := by
  have h1 : F 1 = 1 := rfl
  have h4 : F 4 = 4 := by decide
  have h8 : F 8 = 8 := by decide
  have h16 : F 16 = 16 := by decide
  simp only [List.map, ev, h1, h4, h8, h16]
  grind
theorem add_ev (x : Fp) : ev ([0, 4].map F) x = ev ([1, 4].map F) x + ev ([2305843009213693950].map F) x := by
  have h0 : F 0 = 0 := rfl
  have h1 : F 1 = 1 := rfl
  have hm : F 2305843009213693950 = -1 := by decide
  simp only [List.map, ev, h0, h1, hm]
  grind
theorem at41 : evN [1, 4] 10 = 41 := by decide
theorem zero1 : zeroOf ps 2 = 1 := by
  have S := sound_of err
  have := through_ev (ps := ps) (n := 2) (s := [1, 4]) rfl S (by decide) (by
    intro j hj
    match j, hj with
    | 0, _ => decide
    | 1, _ => decide) 0
  unfold zeroOf
  rw [if_pos err, ← this]
  decide
theorem pts (w : World) (t : TypeId) : PtsOf (w.alloc (.cells #[.int .i64 1, .int .u64 5, .int .i64 2, .int .u64 9] t)) (some ⟨w.heap.size, 0, none⟩) 2 2 ps := by
  have R := Row.new w t [.int .i64 1, .int .u64 5, .int .i64 2, .int .u64 9]
  refine ⟨rfl, Nat.le_refl _, by decide, ?_⟩
  intro i p hp
  match i with
  | 0 => simp [ps] at hp; subst hp; exact ⟨_, _, rfl, R.cell rfl, R.cell rfl⟩
  | 1 => simp [ps] at hp; subst hp; exact ⟨_, _, rfl, R.cell rfl, R.cell rfl⟩
  | i + 2 => simp [ps] at hp
end Aw6

theorem nums_new (w : World) (t : TypeId) (l : List Nat) (h : ∀ y ∈ l, y < 18446744073709551616) : Nums (w.alloc (.cells (nums .u64 l).toArray t)) (some ⟨w.heap.size, 0, none⟩) l.length l.length l :=
  ⟨rfl, Nat.le_refl _, h, (Row.new w t _).rd⟩

set_option maxHeartbeats 2000000 in
theorem awake6 (K : PolyK) (w : World) : Calls Try.prog 10 #[] w fun e w' => e = .returned (.bool true) ∧ Old w w' := by
  have KK := hide K
  have Q0 := hide (Aw6.pts w 39)
  have O0 : Hid (∀ o, Old w (w.alloc o)) := fun o => Old.of_alloc _ _
  clear K
  go_enter Try.func10, Try.ntmps10
  go_wp2_with fail
  refine (KK.out.through Aw6.ps 2 _ 2 _ Q0.out (by omega)).mono ?_
  rintro e w1 ⟨o1, s, r, k, cr, rfl, hcr, -, hs⟩
  rw [Aw6.err] at hs ⊢
  obtain ⟨hl, hk, lt, ti, hv, rs⟩ := hs rfl
  obtain rfl := Aw6.poly14 hl hk lt ti hv
  obtain rfl : k = 2 := by simpa using hl.symm
  have O1 := (O0.out _).trans o1
  have Q1 := hide (Q0.out.mono o1)
  have N1 : Nums w1 r 2 cr [1, 4] := ⟨rfl, hcr, by decide, rs⟩
  clear Q0 O0 o1 hl hk lt ti hv rs hs hcr
  go_wp2_with fail
  refine (KK.out.zero Aw6.ps 2 _ 2 _ Q1.out (by omega)).mono ?_
  rintro e w2 ⟨rfl, o2⟩
  rw [Aw6.err, Aw6.zero1]
  have O2 := O1.trans o2
  have N2 := N1.mono o2
  clear O1 N1 Q1 o2
  go_wp2_with fail
  have L3 := hide (nums_new w2 23 [1, 4] (by decide))
  have N3 := N2.mono (Old.of_alloc w2 (.cells (nums .u64 [1, 4]).toArray 23))
  have O3 := O2.alloc (.cells (nums .u64 [1, 4]).toArray 23)
  refine (R1.Same_any 2 2 [1, 4] [1, 4] _ _ _ _ _ (by omega) rfl rfl N3.2.2.2 L3.out.2.2.2).mono ?_
  rintro e w3 ⟨rfl, o3⟩
  have N4 := N3.mono o3
  have O4 := O3.trans o3
  clear N2 O2 L3 N3 O3 o3
  go_wp2_with fail
  refine (KK.out.at_ [1, 4] 2 10 _ _ _ N4 (by omega) (by omega)).mono ?_
  rintro e w4 ⟨rfl, o4⟩
  rw [Aw6.at41]
  have N5 := N4.mono o4
  have O5 := O4.trans o4
  clear N4 O4 o4
  go_wp2_with fail
  refine (KK.out.mul [1, 4] [1, 4] 2 2 _ _ _ _ _ N5 N5 (by omega) (by omega)).mono ?_
  rintro e w5 ⟨s, r5, k, c5, rfl, ps, hc5, rs, o5⟩
  obtain rfl := ps.same (t := [1, 8, 16]) (j := 3) (m := 3) (g := ev ([1, 8, 16].map F)) ⟨rfl, by omega, by decide, Aw6.tight1816, fun _ => rfl⟩ (by omega) (by omega) (fun x => (Aw6.mul_ev x).symm)
  obtain rfl : k = 3 := by simpa using ps.len.symm
  have N6 := N5.mono o5
  have O6 := O5.trans o5
  have O5' := o5
  clear N5 O5 o5 ps O5'
  go_wp2_with fail
  have L6 := hide (nums_new w5 23 [1, 8, 16] (by decide))
  have N7 := N6.mono (Old.of_alloc w5 (.cells (nums .u64 [1, 8, 16]).toArray 23))
  have R7 := rs.mono (Old.of_alloc w5 (.cells (nums .u64 [1, 8, 16]).toArray 23))
  have O7 := O6.alloc (.cells (nums .u64 [1, 8, 16]).toArray 23)
  refine (R1.Same_any 3 3 [1, 8, 16] [1, 8, 16] _ _ _ _ _ (by omega) rfl rfl R7 L6.out.2.2.2).mono ?_
  rintro e w6 ⟨rfl, o6⟩
  have N8 := N7.mono o6
  have O8 := O7.trans o6
  clear N6 O6 L6 N7 R7 O7 o6 rs hc5
  go_wp2_with fail
  have L8 := hide (nums_new w6 23 [2305843009213693950] (by decide))
  have N9 := N8.mono (Old.of_alloc w6 (.cells (nums .u64 [2305843009213693950]).toArray 23))
  have O9 := O8.alloc (.cells (nums .u64 [2305843009213693950]).toArray 23)
  refine (KK.out.add [1, 4] [2305843009213693950] 2 1 _ _ _ _ _ N9 L8.out (by omega) (by omega)).mono ?_
  rintro e w7 ⟨s, r7, k, c7, rfl, ps, hc7, rs, o7⟩
  obtain rfl := ps.same (t := [0, 4]) (j := 2) (m := 2) (g := ev ([0, 4].map F)) ⟨rfl, by omega, by decide, Aw6.tight04, fun _ => rfl⟩ (by omega) (by omega) (fun x => (Aw6.add_ev x).symm)
  obtain rfl : k = 2 := by simpa using ps.len.symm
  have O10 := O9.trans o7
  clear N8 O8 L8 N9 O9 o7 ps hc7
  go_wp2_with fail
  have L10 := hide (nums_new w7 23 [0, 4] (by decide))
  have R11 := rs.mono (Old.of_alloc w7 (.cells (nums .u64 [0, 4]).toArray 23))
  have O11 := O10.alloc (.cells (nums .u64 [0, 4]).toArray 23)
  refine (R1.Same_any 2 2 [0, 4] [0, 4] _ _ _ _ _ (by omega) rfl rfl R11 L10.out.2.2.2).mono ?_
  rintro e w8 ⟨rfl, o8⟩
  have O12 := O11.trans o8
  clear L10 R11 O11 o8 rs O10
  go_wp2
  go_ret
  exact ⟨rfl, O12⟩
end Go.Proofs.Ythmlhflflbfpkaa
