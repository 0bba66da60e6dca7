/-
  What layer 11's calls owe, told by values alone (the walks of its statements ask no more); the fixed fact of its statements.
-/
import Derived.Test.YtkhhjdbmkoggeaaRefBin
import Derived.Test.YtkhhjdbmkoggeaaWhole
import Derived.Test.YtkhhjdbmkoggeaaElem
namespace Go.Proofs.Ytkhhjdbmkoggeaa
open Go.RowKit Pn
set_option linter.unusedVariables false

def FindC11 : Prop := ∀ (lo hi mo x : Int) (a : Option Addr) (n cap : Nat) (es : List Int) (w : World), B64 x → Fit w lo hi mo a n es → Calls Try.prog 7 #[pv lo hi mo a n cap, .int .i64 x] w fun e w' => e = .returned (.tuple #[.int .i64 (binS (soundZ lo hi mo es) lo hi es x), .int .i64 (soundZ lo hi mo es)]) ∧ Old w w'
def CountC11 : Prop := ∀ (lo hi mo : Int) (a : Option Addr) (n cap : Nat) (es : List Int) (b : Option Addr) (k capk : Nat) (xs : List Int) (w : World), Fit w lo hi mo a n es → Sam w b k xs →
  Calls Try.prog 11 #[pv lo hi mo a n cap, .slice b k capk] w fun e w' => CountR w w' e (capZ (soundZ lo hi mo es) mo k) (ints (cntL lo hi es xs))
structure BinK : Prop where
  find : FindC11
  count : CountC11

/-- The fixed plan: its edges in block g, itself in block g + 1. -/
structure Ak11 (w : World) (wr : World) : Prop where
  ed : Row wr w.heap.size 3 [.int .i64 3, .int .i64 5]
  pl : Row wr (w.heap.size + 1) 24 [.int .i64 0, .int .i64 9, .int .i64 3, .slice (some ⟨w.heap.size, 0, none⟩) 2 2]
  old : Old w wr
theorem Ak11.mono {w : World} {wr w' : World} (h : Ak11 w wr) (o : Old wr w') : Ak11 w w' := ⟨h.ed.mono o, h.pl.mono o, h.old.trans o⟩
theorem Ak11.fit {w : World} {wr : World} (h : Ak11 w wr) : Fit wr 0 9 3 (some ⟨w.heap.size, 0, none⟩) 2 [3, 5] :=
  ⟨by unfold B64; omega, by unfold B64; omega, by unfold B64; omega, rfl, by omega, by intro e he; simp at he; rcases he with rfl | rfl <;> (unfold B64; omega), fun i v hv => ⟨_, _, rfl, by rw [Nat.zero_add]; exact h.ed.cell hv⟩⟩
theorem Ak11.start (w : World) : Ak11 w ((w.alloc (.cells #[.int .i64 3, .int .i64 5] 3)).alloc (.cells #[.int .i64 0, .int .i64 9, .int .i64 3, .slice (some ⟨w.heap.size, 0, none⟩) 2 2] 24)) := by
  refine ⟨(Row.new _ _ _).mono (Old.of_alloc _ _), ?_, (Old.of_alloc _ _).alloc _⟩
  have := Row.new (w.alloc (.cells #[.int .i64 3, .int .i64 5] 3)) 24 [.int .i64 0, .int .i64 9, .int .i64 3, .slice (some ⟨w.heap.size, 0, none⟩) 2 2]
  rw [World.size_alloc] at this
  exact this
namespace Aw11
theorem s0 : soundZ 0 9 3 [3, 5] = 0 := by decide +kernel
theorem k1 : cntL 0 9 [3, 5] [2, 3, 99] = [1, 1, 1] := by decide +kernel
section
variable {w wr : World}
theorem c1 (K : BinK) (h : Ak11 w wr) : Calls Try.prog 7 #[.agg #[.int .i64 0, .int .i64 9, .int .i64 3, .slice (some ⟨w.heap.size, 0, none⟩) 2 2], .int .i64 3] wr fun e w' => e = .returned (.tuple #[.int .i64 1, .int .i64 0]) ∧ Old wr w' := by
  have := K.find 0 9 3 3 (some ⟨w.heap.size, 0, none⟩) 2 2 [3, 5] wr (by unfold B64; omega) h.fit
  rw [s0] at this
  exact this
theorem c2 (K : BinK) (h : Ak11 w wr) {g : Nat} {t : TypeId} (R : Row wr g t (ints [2, 3, 99])) : Calls Try.prog 11 #[.agg #[.int .i64 0, .int .i64 9, .int .i64 3, .slice (some ⟨w.heap.size, 0, none⟩) 2 2], .slice (some ⟨g, 0, none⟩) 3 3] wr fun e w' => ∃ g' cap, e = .returned (.tuple #[.slice (some ⟨g', 0, none⟩) 3 cap, .int .i64 0]) ∧ Old wr w' ∧ Rd w' (some ⟨g', 0, none⟩) (ints [1, 1, 1]) := by
  have := K.count 0 9 3 (some ⟨w.heap.size, 0, none⟩) 2 2 [3, 5] (some ⟨g, 0, none⟩) 3 3 [2, 3, 99] wr h.fit (sam_row R (by simp) (by intro e he; simp at he; rcases he with rfl | rfl | rfl <;> (unfold B64; omega)))
  rw [s0, k1, cap_ok rfl (by omega)] at this
  refine this.mono ?_
  rintro e w' ⟨v, rfl, o, h1, _⟩
  obtain ⟨g', cap, rfl, r⟩ := (h1 rfl).rd
  exact ⟨g', cap, rfl, o, r⟩
theorem c3 (K : BinK) (h : Ak11 w wr) {g : Nat} {t : TypeId} (R : Row wr g t (ints [0, 0, 0, 0])) : Calls Try.prog 11 #[.agg #[.int .i64 0, .int .i64 9, .int .i64 3, .slice (some ⟨w.heap.size, 0, none⟩) 2 2], .slice (some ⟨g, 0, none⟩) 4 4] wr fun e w' => ∃ a cap, e = .returned (.tuple #[.slice a 0 cap, .int .i64 9]) ∧ Old wr w' := by
  have := K.count 0 9 3 (some ⟨w.heap.size, 0, none⟩) 2 2 [3, 5] (some ⟨g, 0, none⟩) 4 4 [0, 0, 0, 0] wr h.fit (sam_row R (by simp) (by intro e he; simp at he; subst he; unfold B64; omega))
  rw [s0, cap_many rfl (by omega)] at this
  refine this.mono ?_
  rintro e w' ⟨v, rfl, o, _, h2⟩
  obtain ⟨a, cap, rfl⟩ := h2 (by omega)
  exact ⟨a, cap, rfl, o⟩
end
end Aw11

set_option maxHeartbeats 4000000 in
theorem awake11 (K : BinK) (w : World) : Calls Try.prog 9 #[] w fun e w' => e = .returned (.bool true) ∧ Old w w' := by
  have KK := hide K
  clear K
  have A0 := hide (Ak11.start w)
  go_enter Try.func9, Try.ntmps9
  go_wp2_with fail
  refine (Aw11.c1 KK.out A0.out).mono ?_
  rintro e w1 ⟨rfl, o1⟩
  have A1 := hide (A0.out.mono o1)
  clear A0 o1
  have p0 := A1.out.pl.cell (i := 0) rfl
  have p1 := A1.out.pl.cell (i := 1) rfl
  have p2 := A1.out.pl.cell (i := 2) rfl
  have p3 := A1.out.pl.cell (i := 3) rfl
  have R1 := hide (Row.new w1 3 (ints [2, 3, 99]))
  have A2 := hide (A1.out.mono (Old.of_alloc w1 (.cells (ints [2, 3, 99]).toArray 3)))
  go_wp2_with fail
  refine (Aw11.c2 KK.out A2.out R1.out).mono ?_
  rintro e w2 ⟨g, cap, rfl, o2, r2⟩
  have A3 := hide (A2.out.mono o2)
  have RD := hide r2
  clear A1 A2 o2 r2 R1 p0 p1 p2 p3
  have p0 := A3.out.pl.cell (i := 0) rfl
  have p1 := A3.out.pl.cell (i := 1) rfl
  have p2 := A3.out.pl.cell (i := 2) rfl
  have p3 := A3.out.pl.cell (i := 3) rfl
  clear p0 p1 p2 p3
  go_wp2_with fail
  have S1 : Ak11 w (w2.drewN 1) ∧ Rd (w2.drewN 1) (some ⟨g, 0, none⟩) (ints [1, 1, 1]) := ⟨A3.out.mono (Old.of_drewN _ _), RD.out.mono (Old.of_drewN _ _)⟩
  refine Ssx.region (Ext := Old) (fun w' => Ak11 w w' ∧ Rd w' (some ⟨g, 0, none⟩) (ints [1, 1, 1])) [22, 23, 24, 21, 25, 26, 6, 7]
    [(22, Ssx.cst (.agg #[.int .i64 0, .int .i64 9, .int .i64 3, .slice (some ⟨w.heap.size, 0, none⟩) 2 2])), (23, ⟨fun v w' => ∃ b, v = .slice (some ⟨b, 0, none⟩) 4 4 ∧ Row w' b 3 (ints [0, 0, 0, 0]), fun _ _ _ ⟨b, h1, h2⟩ o => ⟨b, h1, h2.mono o⟩⟩),
     (24, ex fun v => ∃ a c, v = .tuple #[.slice a 0 c, .int .i64 9]), (21, ex fun v => ∃ a c, v = .tuple #[.slice a 0 c, .int .i64 9]), (25, ex fun v => ∃ a c, v = .slice a 0 c), (26, Ssx.cst (.int .i64 9)), (6, ex fun v => ∃ a c, v = .slice a 0 c), (7, Ssx.cst (.int .i64 9))]
    [] (by kernel_rfl) (by kernel_rfl) (by kernel_rfl) (by kernel_rfl) (fun _ _ h => by cases h) (by kernel_rfl) (by kernel_rfl) (by kernel_rfl) S1 ?good ?behind
  case good =>
    refine ⟨Ssx.whole Old.refl rfl rfl (w.heap.size + 1) [.int .i64 0, .int .i64 9, .int .i64 3, .slice (some ⟨w.heap.size, 0, none⟩) 2 2] (fun _ _ h => h) (fun _ h => h.1.pl.rngX) Try.underlying24 rfl infoPl (fun _ => rfl), ?_, ?_, Ssx.mv Old.refl rfl rfl (fun _ _ h => h), ?_, ?_, Ssx.asg Old.refl rfl rfl (fun _ _ h => h), Ssx.asg Old.refl rfl rfl (fun _ _ h => h), trivial⟩
    · refine Ssx.step rfl fun a w' hC hop => ⟨.slice (some ⟨w'.heap.size, 0, none⟩) 4 4, _, ?_, ⟨hC.1.mono (Old.of_alloc _ _), hC.2.mono (Old.of_alloc _ _)⟩, Old.of_alloc _ _, ⟨_, rfl, Row.new _ _ _⟩⟩
      have h2 := make_ints 4 (by omega) w'
      simp only [show ((4 : Nat) : Int) = 4 from rfl] at h2
      simp [Act.eval, h2, go_sem]
    · refine Ssx.call rfl fun a w' hC hop => ?_
      obtain ⟨b, h1, h2⟩ : ∃ b, a.eval (.tmp 23) = .slice (some ⟨b, 0, none⟩) 4 4 ∧ Row w' b 3 (ints [0, 0, 0, 0]) := hop 23 (by simp [Op.operands, Call.operands])
      have h3 : a.eval (.tmp 22) = .agg #[.int .i64 0, .int .i64 9, .int .i64 3, .slice (some ⟨w.heap.size, 0, none⟩) 2 2] := hop 22 (by simp [Op.operands, Call.operands])
      refine ⟨11, #[.agg #[.int .i64 0, .int .i64 9, .int .i64 3, .slice (some ⟨w.heap.size, 0, none⟩) 2 2], .slice (some ⟨b, 0, none⟩) 4 4], ?_, (Aw11.c3 KK.out hC.1 h2).mono fun _ _ ⟨x, c, he, ho⟩ => ⟨_, he, ⟨hC.1.mono ho, hC.2.mono ho⟩, ho, ⟨x, c, rfl⟩⟩⟩
      simp [Act.eval] at h1 h3
      simp [h1, h3, go_sem]
    · exact ex_ext Old.refl 0 rfl rfl fun v w' ⟨x, c, hv⟩ => ⟨_, _, hv, rfl, ⟨x, c, rfl⟩⟩
    · exact ex_ext Old.refl 1 rfl rfl fun v w' ⟨x, c, hv⟩ => ⟨_, _, hv, rfl, rfl⟩
  case behind =>
    intro vals w3 hC hv
    obtain ⟨x, c, h6⟩ : ∃ a c, vals 6 = .slice a 0 c := hv _ (.tail _ (.tail _ (.tail _ (.tail _ (.tail _ (.tail _ (.head _)))))))
    have h7 : vals 7 = .int .i64 9 := hv _ (.tail _ (.tail _ (.tail _ (.tail _ (.tail _ (.tail _ (.tail _ (.head _))))))))
    simp only [Ssa.putAll, List.map_cons, List.map_nil, List.foldl_cons, List.foldl_nil, List.setIfInBounds_toArray, List.set_cons_succ, List.set_cons_zero]
    rename_i Q0 K0 hK
    refine hK _ w3 ?_
    clear hK
    rw [h6, h7]
    have O3 := hC.1.old
    have RD3 := hide hC.2
    clear hC hv S1 A3 RD h6 h7
    have R4 := hide (Row.new w3 3 (ints [1, 1, 1]))
    have O4 := O3.trans (Old.of_alloc w3 (.cells (ints [1, 1, 1]).toArray 3))
    go_wp2_with fail
    refine (Ints_any 3 3 [1, 1, 1] [1, 1, 1] (some ⟨g, 0, none⟩) (some ⟨w3.heap.size, 0, none⟩) cap 3 _ (by omega) rfl rfl (RD3.out.mono (Old.of_alloc _ _)) (sam_row R4.out (by simp) (by intro e he; simp at he; subst he; unfold B64; omega)).rd).mono ?_
    rintro e w5 ⟨rfl, o5⟩
    have O5 := O4.trans o5
    clear R4 O3 O4 o5 RD3
    go_wp2
    go_ret
    exact ⟨by simp, O5⟩
end Go.Proofs.Ytkhhjdbmkoggeaa
