/-
  What layer 12's calls owe, told by values alone (the walks of its statements ask no more); the fixed fact of its statements.
-/
import Derived.Test.YtegegfoogkpncaaDoorRefTally
import Derived.Test.YtegegfoogkpncaaDoorCells
import Derived.Test.YtegegfoogkpncaaDoorTab
namespace Go.Proofs.YtegegfoogkpncaaDoor
open Go.RowKit Pn
set_option linter.unusedVariables false

/-- How many bits a place of the plan has. -/
def bN (lo hi : Int) : Nat := bitsN (hi - lo).toNat
def lenS (s lo hi : Int) (es : List Int) : Int := if s = 0 then ((lenN es (bN lo hi) : Nat) : Int) else 0

def LenC12 : Prop := ∀ (lo hi mo : Int) (a : Option Addr) (n cap : Nat) (es : List Int) (w : World), Fit w lo hi mo a n es → Calls Tryd.prog 8 #[pv lo hi mo a n cap] w fun e w' => e = .returned (.tuple #[.int .i64 (lenS (soundZ lo hi mo es) lo hi es), .int .i64 (soundZ lo hi mo es)]) ∧ Old w w'

def EncodeC12 : Prop := ∀ (lo hi mo : Int) (a : Option Addr) (n cap : Nat) (es : List Int) (b : Option Addr) (k capk : Nat) (xs : List Int) (w : World), Fit w lo hi mo a n es → Sam w b k xs → Tab w →
  Calls Tryd.prog 12 #[pv lo hi mo a n cap, .slice b k capk] w fun e w' => CountR w w' e (capZ (soundZ lo hi mo es) mo k) (nums .u32 (vecT lo hi es (bN lo hi) xs))

structure TallyK : Prop where
  len : LenC12
  encode : EncodeC12

/-- The fixed plan: its edge in block g, itself in block g + 1. -/
structure Ak12 (w : World) (wr : World) : Prop where
  ed : Row wr w.heap.size 3 [.int .i64 2]
  pl : Row wr (w.heap.size + 1) 24 [.int .i64 0, .int .i64 3, .int .i64 3, .slice (some ⟨w.heap.size, 0, none⟩) 1 1]
  old : Old w wr
theorem Ak12.mono {w : World} {wr w' : World} (h : Ak12 w wr) (o : Old wr w') : Ak12 w w' := ⟨h.ed.mono o, h.pl.mono o, h.old.trans o⟩
theorem Ak12.fit {w : World} {wr : World} (h : Ak12 w wr) : Fit wr 0 3 3 (some ⟨w.heap.size, 0, none⟩) 1 [2] :=
  ⟨by unfold B64; omega, by unfold B64; omega, by unfold B64; omega, rfl, by omega, by intro e he; simp at he; subst he; unfold B64; omega, fun i v hv => ⟨_, _, rfl, by rw [Nat.zero_add]; exact h.ed.cell hv⟩⟩
theorem Ak12.start (w : World) : Ak12 w ((w.alloc (.cells #[.int .i64 2] 3)).alloc (.cells #[.int .i64 0, .int .i64 3, .int .i64 3, .slice (some ⟨w.heap.size, 0, none⟩) 1 1] 24)) := by
  refine ⟨(Row.new _ _ _).mono (Old.of_alloc _ _), ?_, (Old.of_alloc _ _).alloc _⟩
  have := Row.new (w.alloc (.cells #[.int .i64 2] 3)) 24 [.int .i64 0, .int .i64 3, .int .i64 3, .slice (some ⟨w.heap.size, 0, none⟩) 1 1]
  rw [World.size_alloc] at this
  exact this
namespace Aw12
theorem s0 : soundZ 0 3 3 [2] = 0 := by decide +kernel
theorem k1 : vecT 0 3 [2] (bN 0 3) [3, 1] = [1, 1, 2, 2, 1, 2, 0, 0, 1] := by decide +kernel
theorem k2 : lenS 0 0 3 [2] = 9 := by decide +kernel
section
variable {w wr : World}
theorem c1 (K : TallyK) (h : Ak12 w wr) : Calls Tryd.prog 8 #[.agg #[.int .i64 0, .int .i64 3, .int .i64 3, .slice (some ⟨w.heap.size, 0, none⟩) 1 1]] wr fun e w' => e = .returned (.tuple #[.int .i64 9, .int .i64 0]) ∧ Old wr w' := by
  have := K.len 0 3 3 (some ⟨w.heap.size, 0, none⟩) 1 1 [2] wr h.fit
  rw [s0, k2] at this
  exact this
theorem c2 (K : TallyK) (T : Tab w) (h : Ak12 w wr) {g : Nat} {t : TypeId} (R : Row wr g t (ints [3, 1])) : Calls Tryd.prog 12 #[.agg #[.int .i64 0, .int .i64 3, .int .i64 3, .slice (some ⟨w.heap.size, 0, none⟩) 1 1], .slice (some ⟨g, 0, none⟩) 2 2] wr fun e w' => ∃ g' cap, e = .returned (.tuple #[.slice (some ⟨g', 0, none⟩) 9 cap, .int .i64 0]) ∧ Old wr w' ∧ Rd w' (some ⟨g', 0, none⟩) (nums .u32 [1, 1, 2, 2, 1, 2, 0, 0, 1]) := by
  have := K.encode 0 3 3 (some ⟨w.heap.size, 0, none⟩) 1 1 [2] (some ⟨g, 0, none⟩) 2 2 [3, 1] wr h.fit (sam_row R (by simp) (by intro e he; simp at he; rcases he with rfl | rfl <;> (unfold B64; omega))) (T.mono h.old)
  rw [s0, k1, cap_ok rfl (by omega)] at this
  refine this.mono ?_
  rintro e w' ⟨v, rfl, o, h1, _⟩
  obtain ⟨g', cap, rfl, r⟩ := (h1 rfl).rd
  exact ⟨g', cap, rfl, o, r⟩
end
end Aw12

set_option maxHeartbeats 4000000 in
theorem awake12 (K : TallyK) (w : World) (T : Tab w) : Calls Tryd.prog 10 #[] w fun e w' => e = .returned (.bool true) ∧ Old w w' := by
  have KK := hide K
  have TT := hide T
  clear K T
  have A0 := hide (Ak12.start w)
  go_enter Tryd.func10, Tryd.ntmps10
  go_wp2_with fail
  refine (Aw12.c1 KK.out A0.out).mono ?_
  rintro e w1 ⟨rfl, o1⟩
  have A1 := hide (A0.out.mono o1)
  clear A0 o1
  have p0 := A1.out.pl.cell (i := 0) rfl
  have p1 := A1.out.pl.cell (i := 1) rfl
  have p2 := A1.out.pl.cell (i := 2) rfl
  have p3 := A1.out.pl.cell (i := 3) rfl
  have R1 := hide (Row.new w1 3 (ints [3, 1]))
  have A2 := hide (A1.out.mono (Old.of_alloc w1 (.cells (ints [3, 1]).toArray 3)))
  go_wp2_with fail
  refine (Aw12.c2 KK.out TT.out A2.out R1.out).mono ?_
  rintro e w2 ⟨g, cap, rfl, o2, r2⟩
  have O3 := hide (A2.out.mono o2).old
  have RD := hide r2
  clear A1 A2 o2 r2 R1 p0 p1 p2 p3
  have R4 := hide (Row.new w2 38 (nums .u32 [1, 1, 2, 2, 1, 2, 0, 0, 1]))
  have O4 := hide (O3.out.trans (Old.of_alloc w2 (.cells (nums .u32 [1, 1, 2, 2, 1, 2, 0, 0, 1]).toArray 38)))
  go_wp2_with fail
  refine (R1.Cells_any 9 9 [1, 1, 2, 2, 1, 2, 0, 0, 1] [1, 1, 2, 2, 1, 2, 0, 0, 1] (some ⟨g, 0, none⟩) (some ⟨w2.heap.size, 0, none⟩) cap 9 _ (by omega) rfl rfl (RD.out.mono (Old.of_alloc _ _)) (fun i v hv => ⟨_, _, rfl, by rw [Nat.zero_add]; exact R4.out.cell hv⟩)).mono ?_
  rintro e w5 ⟨rfl, o5⟩
  have O5 := O4.out.trans o5
  clear R4 O3 O4 o5 RD
  go_wp2
  go_ret
  exact ⟨by simp, O5⟩
end Go.Proofs.YtegegfoogkpncaaDoor
