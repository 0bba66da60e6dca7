/-
  What layer 10's calls owe, told by values alone (the walks of its statements ask no more); the fixed fact of its statements.
-/
import Derived.Test.YtjdnckjncnalhaaRefClamp
import Derived.Test.YtjdnckjncnalhaaWhole
namespace Go.Proofs.Ytjdnckjncnalhaa
open Go.RowKit Pn
set_option linter.unusedVariables false

def SoundC10 : Prop := ∀ (lo hi mo : Int) (a : Option Addr) (n cap : Nat) (es : List Int) (w : World), Fit w lo hi mo a n es → Calls Try.prog 8 #[pv lo hi mo a n cap] w fun e w' => e = .returned (.int .i64 (soundZ lo hi mo es)) ∧ Old w w'

def BitsC10 : Prop := ∀ (lo hi mo : Int) (a : Option Addr) (n cap : Nat) (es : List Int) (w : World), Fit w lo hi mo a n es → Calls Try.prog 10 #[pv lo hi mo a n cap] w fun e w' => e = .returned (.tuple #[.int .i64 (bitsS (soundZ lo hi mo es) lo hi), .int .i64 (soundZ lo hi mo es)]) ∧ Old w w'

def ClampC10 : Prop := ∀ (lo hi mo x : Int) (a : Option Addr) (n cap : Nat) (es : List Int) (w : World), B64 x → Fit w lo hi mo a n es → Calls Try.prog 12 #[pv lo hi mo a n cap, .int .i64 x] w fun e w' => e = .returned (.tuple #[.int .i64 (clampS (soundZ lo hi mo es) lo hi x), .int .i64 (soundZ lo hi mo es)]) ∧ Old w w'

def PlaceC10 : Prop := ∀ (lo hi mo x : Int) (a : Option Addr) (n cap : Nat) (es : List Int) (w : World), B64 x → Fit w lo hi mo a n es → Calls Try.prog 13 #[pv lo hi mo a n cap, .int .i64 x] w fun e w' => e = .returned (.tuple #[.int .u64 (placeS (soundZ lo hi mo es) lo hi x), .int .i64 (soundZ lo hi mo es)]) ∧ Old w w'

structure ClampK : Prop where
  sound : SoundC10
  bits : BitsC10
  clamp : ClampC10
  place : PlaceC10

/-- The fixed plan: its edges in block g, itself in block g + 1. -/
structure Ak (w : World) (y : Int) (wr : World) : Prop where
  ed : Row wr w.heap.size 3 [.int .i64 0, .int .i64 y]
  pl : Row wr (w.heap.size + 1) 24 [.int .i64 (-2), .int .i64 5, .int .i64 3, .slice (some ⟨w.heap.size, 0, none⟩) 2 2]
  old : Old w wr
theorem Ak.mono {w : World} {y : Int} {wr w' : World} (h : Ak w y wr) (o : Old wr w') : Ak w y w' := ⟨h.ed.mono o, h.pl.mono o, h.old.trans o⟩
theorem Ak.fit {w : World} {y : Int} {wr : World} (h : Ak w y wr) (hy : B64 y) : Fit wr (-2) 5 3 (some ⟨w.heap.size, 0, none⟩) 2 [0, y] :=
  ⟨by unfold B64; omega, by unfold B64; omega, by unfold B64; omega, rfl, by omega, by intro e he; simp at he; rcases he with rfl | rfl; (· unfold B64; omega); exact hy, fun i v hv => ⟨_, _, rfl, by
    rw [Nat.zero_add]; exact h.ed.cell hv⟩⟩

theorem Ak.start (w : World) : Ak w 4 ((w.alloc (.cells #[.int .i64 0, .int .i64 4] 3)).alloc (.cells #[.int .i64 (-2), .int .i64 5, .int .i64 3, .slice (some ⟨w.heap.size, 0, none⟩) 2 2] 24)) := by
  refine ⟨(Row.new _ _ _).mono (Old.of_alloc _ _), ?_, (Old.of_alloc _ _).alloc _⟩
  have := Row.new (w.alloc (.cells #[.int .i64 0, .int .i64 4] 3)) 24 [.int .i64 (-2), .int .i64 5, .int .i64 3, .slice (some ⟨w.heap.size, 0, none⟩) 2 2]
  rw [World.size_alloc] at this
  exact this
theorem Ak.put {w : World} {wr : World} (h : Ak w 4 wr) : Ak w 0 (wr.setCell ⟨w.heap.size, 1, none⟩ (.int .i64 0)) :=
  ⟨h.ed.set 1 _, h.pl.grown (grown_set _ _ _ _) (by omega), h.old.grown (grown_set _ _ _ _) (Nat.le_refl _)⟩
namespace Aw10
theorem s0 : soundZ (-2) 5 3 [0, 4] = 0 := by decide +kernel
theorem s1 : soundZ (-2) 5 3 [0, 0] = 10 := by decide +kernel
theorem b4 : B64 4 := by unfold B64; omega
theorem b0 : B64 0 := by unfold B64; omega
section
variable {w wr : World}
theorem c1 (K : ClampK) (h : Ak w 4 wr) : Calls Try.prog 10 #[.agg #[.int .i64 (-2), .int .i64 5, .int .i64 3, .slice (some ⟨w.heap.size, 0, none⟩) 2 2]] wr fun e w' => e = .returned (.tuple #[.int .i64 3, .int .i64 0]) ∧ Old wr w' := by
  have := K.bits (-2) 5 3 (some ⟨w.heap.size, 0, none⟩) 2 2 [0, 4] wr (h.fit b4)
  rw [s0] at this
  exact this
theorem c2 (K : ClampK) (h : Ak w 4 wr) : Calls Try.prog 12 #[.agg #[.int .i64 (-2), .int .i64 5, .int .i64 3, .slice (some ⟨w.heap.size, 0, none⟩) 2 2], .int .i64 9] wr fun e w' => e = .returned (.tuple #[.int .i64 5, .int .i64 0]) ∧ Old wr w' := by
  have := K.clamp (-2) 5 3 9 (some ⟨w.heap.size, 0, none⟩) 2 2 [0, 4] wr (by unfold B64; omega) (h.fit b4)
  rw [s0] at this
  exact this
theorem c3 (K : ClampK) (h : Ak w 4 wr) : Calls Try.prog 13 #[.agg #[.int .i64 (-2), .int .i64 5, .int .i64 3, .slice (some ⟨w.heap.size, 0, none⟩) 2 2], .int .i64 (-7)] wr fun e w' => e = .returned (.tuple #[.int .u64 0, .int .i64 0]) ∧ Old wr w' := by
  have := K.place (-2) 5 3 (-7) (some ⟨w.heap.size, 0, none⟩) 2 2 [0, 4] wr (by unfold B64; omega) (h.fit b4)
  rw [s0] at this
  exact this
theorem c4 (K : ClampK) (h : Ak w 4 wr) : Calls Try.prog 13 #[.agg #[.int .i64 (-2), .int .i64 5, .int .i64 3, .slice (some ⟨w.heap.size, 0, none⟩) 2 2], .int .i64 1] wr fun e w' => e = .returned (.tuple #[.int .u64 3, .int .i64 0]) ∧ Old wr w' := by
  have := K.place (-2) 5 3 1 (some ⟨w.heap.size, 0, none⟩) 2 2 [0, 4] wr (by unfold B64; omega) (h.fit b4)
  rw [s0] at this
  exact this
theorem c5 (K : ClampK) (h : Ak w 0 wr) : Calls Try.prog 8 #[.agg #[.int .i64 (-2), .int .i64 5, .int .i64 3, .slice (some ⟨w.heap.size, 0, none⟩) 2 2]] wr fun e w' => e = .returned (.int .i64 10) ∧ Old wr w' := by
  have := K.sound (-2) 5 3 (some ⟨w.heap.size, 0, none⟩) 2 2 [0, 0] wr (h.fit b0)
  rw [s1] at this
  exact this
end
end Aw10

set_option maxHeartbeats 4000000 in
theorem awake10 (K : ClampK) (w : World) : Calls Try.prog 7 #[] w fun e w' => e = .returned (.bool true) ∧ Old w w' := by
  have KK := hide K
  clear K
  have A0 := hide (Ak.start w)
  go_enter Try.func7, Try.ntmps7
  go_wp2_with fail
  refine (Aw10.c1 KK.out A0.out).mono ?_
  rintro e w1 ⟨rfl, o1⟩
  have A1 := hide (A0.out.mono o1)
  clear A0 o1
  have p0 := A1.out.pl.cell (i := 0) rfl
  have p1 := A1.out.pl.cell (i := 1) rfl
  have p2 := A1.out.pl.cell (i := 2) rfl
  have p3 := A1.out.pl.cell (i := 3) rfl
  go_wp2_with fail
  refine (Aw10.c2 KK.out A1.out).mono ?_
  rintro e w2 ⟨rfl, o2⟩
  have A2 := hide (A1.out.mono o2)
  clear A1 o2 p0 p1 p2 p3
  have p0 := A2.out.pl.cell (i := 0) rfl
  have p1 := A2.out.pl.cell (i := 1) rfl
  have p2 := A2.out.pl.cell (i := 2) rfl
  have p3 := A2.out.pl.cell (i := 3) rfl
  go_wp2_with fail
  refine (Aw10.c3 KK.out A2.out).mono ?_
  rintro e w3 ⟨rfl, o3⟩
  have A3 := hide (A2.out.mono o3)
  clear A2 o3 p0 p1 p2 p3
  have p0 := A3.out.pl.cell (i := 0) rfl
  have p1 := A3.out.pl.cell (i := 1) rfl
  have p2 := A3.out.pl.cell (i := 2) rfl
  have p3 := A3.out.pl.cell (i := 3) rfl
  go_wp2_with fail
  refine (Aw10.c4 KK.out A3.out).mono ?_
  rintro e w4 ⟨rfl, o4⟩
  have A4 := hide (A3.out.mono o4)
  clear A3 o4 p0 p1 p2 p3
  have A5 := hide A4.out.put
  have p0 := A4.out.pl.cell (i := 0) rfl
  have p1 := A4.out.pl.cell (i := 1) rfl
  have p2 := A4.out.pl.cell (i := 2) rfl
  have p3 := A4.out.pl.cell (i := 3) rfl
  have e0 := A4.out.ed.cell (i := 1) rfl
  have ef := A4.out.ed.free 1
  go_wp2_with fail
  refine (Aw10.c5 KK.out A5.out).mono ?_
  rintro e w5 ⟨rfl, o5⟩
  have O := A5.out.old.trans o5
  clear A4 A5 o5 p0 p1 p2 p3 e0 ef
  go_wp2
  go_ret
  exact ⟨rfl, O⟩
end Go.Proofs.Ytjdnckjncnalhaa
