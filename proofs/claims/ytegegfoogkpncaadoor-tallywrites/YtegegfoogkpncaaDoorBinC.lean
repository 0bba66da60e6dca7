/-
  What layer 11's calls owe, told by values alone (the walks of its statements ask no more); the fixed fact of its statements.
-/
import Derived.Test.YtegegfoogkpncaaDoorRefBin
import Derived.Test.YtegegfoogkpncaaDoorWhole
import Derived.Test.YtegegfoogkpncaaDoorElem
namespace Go.Proofs.YtegegfoogkpncaaDoor
open Go.RowKit Pn
set_option linter.unusedVariables false

def FindC11 : Prop := ∀ (lo hi mo x : Int) (a : Option Addr) (n cap : Nat) (es : List Int) (w : World), B64 x → Fit w lo hi mo a n es → Calls Tryd.prog 27 #[pv lo hi mo a n cap, .int .i64 x] w fun e w' => e = .returned (.tuple #[.int .i64 (binS (soundZ lo hi mo es) lo hi es x), .int .i64 (soundZ lo hi mo es)]) ∧ Old w w'
def CountC11 : Prop := ∀ (lo hi mo : Int) (a : Option Addr) (n cap : Nat) (es : List Int) (b : Option Addr) (k capk : Nat) (xs : List Int) (w : World), Fit w lo hi mo a n es → Sam w b k xs →
  Calls Tryd.prog 18 #[pv lo hi mo a n cap, .slice b k capk] w fun e w' => CountR w w' e (capZ (soundZ lo hi mo es) mo k) (ints (cntL lo hi es xs))
structure BinK : Prop where
  find : FindC11
  count : CountC11

/-- The fixed plan: its edges in block g, itself in block g + 1. -/
structure Ak11 (w : World) (wr : World) : Prop where
  ed : Row wr w.heap.size 3 [.int .i64 3, .int .i64 5]
  pl : Row wr (w.heap.size + 1) 24 [.int .i64 0, .int .i64 9, .int .i64 3, .slice (some ⟨w.heap.size, 0, none⟩) 2 2]
  old : Old w wr
theorem Ak11.mono {w : World} {wr w' : World} (h : Ak11 w wr) (o : Old wr w') : Ak11 w w' := ⟨h.ed.mono o, h.pl.mono o, h.old.trans o⟩
theorem Ak11.fit {w : World} {wr : World} (h : Ak11 w wr) : Fit wr 0 9 3 (some ⟨w.heap.size, 0, none⟩) 2 [3, 5] :=
  ⟨by unfold B64; omega, by unfold B64; omega, by unfold B64; omega, rfl, by omega, by intro e he; simp at he; rcases he with rfl | rfl <;> (unfold B64; omega), fun i v hv => ⟨_, _, rfl, by rw [Nat.zero_add]; exact h.ed.cell hv⟩⟩
theorem Ak11.start (w : World) : Ak11 w ((w.alloc (.cells #[.int .i64 3, .int .i64 5] 3)).alloc (.cells #[.int .i64 0, .int .i64 9, .int .i64 3, .slice (some ⟨w.heap.size, 0, none⟩) 2 2] 24)) := by
  refine ⟨(Row.new _ _ _).mono (Old.of_alloc _ _), ?_, (Old.of_alloc _ _).alloc _⟩
  have := Row.new (w.alloc (.cells #[.int .i64 3, .int .i64 5] 3)) 24 [.int .i64 0, .int .i64 9, .int .i64 3, .slice (some ⟨w.heap.size, 0, none⟩) 2 2]
  rw [World.size_alloc] at this
  exact this
namespace Aw11
theorem s0 : soundZ 0 9 3 [3, 5] = 0 := by decide +kernel
theorem k1 : cntL 0 9 [3, 5] [2, 3, 99] = [1, 1, 1] := by decide +kernel
section
variable {w wr : World}
theorem c1 (K : BinK) (h : Ak11 w wr) : Calls Tryd.prog 27 #[.agg #[.int .i64 0, .int .i64 9, .int .i64 3, .slice (some ⟨w.heap.size, 0, none⟩) 2 2], .int .i64 3] wr fun e w' => e = .returned (.tuple #[.int .i64 1, .int .i64 0]) ∧ Old wr w' := by
  have := K.find 0 9 3 3 (some ⟨w.heap.size, 0, none⟩) 2 2 [3, 5] wr (by unfold B64; omega) h.fit
  rw [s0] at this
  exact this
theorem c2 (K : BinK) (h : Ak11 w wr) {g : Nat} {t : TypeId} (R : Row wr g t (ints [2, 3, 99])) : Calls Tryd.prog 18 #[.agg #[.int .i64 0, .int .i64 9, .int .i64 3, .slice (some ⟨w.heap.size, 0, none⟩) 2 2], .slice (some ⟨g, 0, none⟩) 3 3] wr fun e w' => ∃ g' cap, e = .returned (.tuple #[.slice (some ⟨g', 0, none⟩) 3 cap, .int .i64 0]) ∧ Old wr w' ∧ Rd w' (some ⟨g', 0, none⟩) (ints [1, 1, 1]) := by
  have := K.count 0 9 3 (some ⟨w.heap.size, 0, none⟩) 2 2 [3, 5] (some ⟨g, 0, none⟩) 3 3 [2, 3, 99] wr h.fit (sam_row R (by simp) (by intro e he; simp at he; rcases he with rfl | rfl | rfl <;> (unfold B64; omega)))
  rw [s0, k1, cap_ok rfl (by omega)] at this
  refine this.mono ?_
  rintro e w' ⟨v, rfl, o, h1, _⟩
  obtain ⟨g', cap, rfl, r⟩ := (h1 rfl).rd
  exact ⟨g', cap, rfl, o, r⟩
theorem c3 (K : BinK) (h : Ak11 w wr) {g : Nat} {t : TypeId} (R : Row wr g t (ints [0, 0, 0, 0])) : Calls Tryd.prog 18 #[.agg #[.int .i64 0, .int .i64 9, .int .i64 3, .slice (some ⟨w.heap.size, 0, none⟩) 2 2], .slice (some ⟨g, 0, none⟩) 4 4] wr fun e w' => ∃ a cap, e = .returned (.tuple #[.slice a 0 cap, .int .i64 9]) ∧ Old wr w' := by
  have := K.count 0 9 3 (some ⟨w.heap.size, 0, none⟩) 2 2 [3, 5] (some ⟨g, 0, none⟩) 4 4 [0, 0, 0, 0] wr h.fit (sam_row R (by simp) (by intro e he; simp at he; subst he; unfold B64; omega))
  rw [s0, cap_many rfl (by omega)] at this
  refine this.mono ?_
  rintro e w' ⟨v, rfl, o, _, h2⟩
  obtain ⟨a, cap, rfl⟩ := h2 (by omega)
  exact ⟨a, cap, rfl, o⟩
end
end Aw11

end Go.Proofs.YtegegfoogkpncaaDoor