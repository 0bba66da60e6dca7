/-
  Boxes of the call's own: a list of blocks, each with its type and cells, all apart.
-/
import Derived.Test.YtjbpnhibgafdmaaDoorMem
import Derived.Test.YtjbpnhibgafdmaaDoorWhole
import Derived.Test.YtjbpnhibgafdmaaDoorSsx
namespace Go.Proofs.YtjbpnhibgafdmaaDoor
open Go.RowKit
set_option linter.unusedVariables false

/-- Blocks of the call's own, each with its type and cells, all apart. -/
structure Bxs (w : World) (bs : List (Nat × TypeId × List Value)) (wr : World) : Prop where
  rows : ∀ (i : Nat) (p : Nat × TypeId × List Value), bs[i]? = some p → w.heap.size ≤ p.1 ∧ Row wr p.1 p.2.1 p.2.2
  nd : ∀ (i j : Nat) (p q : Nat × TypeId × List Value), bs[i]? = some p → bs[j]? = some q → i ≠ j → p.1 ≠ q.1
  old : Old w wr
section
variable {w wr w' : World} {bs : List (Nat × TypeId × List Value)}
theorem Bxs.mono (h : Bxs w bs wr) (o : Old wr w') : Bxs w bs w' := ⟨fun i p hp => ⟨(h.rows i p hp).1, (h.rows i p hp).2.mono o⟩, h.nd, h.old.trans o⟩
theorem Bxs.nil (w : World) : Bxs w [] w := ⟨by simp, by simp, Old.refl w⟩
theorem Bxs.row (h : Bxs w bs wr) (i : Nat) {g : Nat} {t : TypeId} {vs : List Value} (hi : bs[i]? = some (g, t, vs)) : Row wr g t vs := (h.rows i _ hi).2
theorem Bxs.add (h : Bxs w bs wr) (o : Old wr w') {g : Nat} {t : TypeId} {vs : List Value} (hg : wr.heap.size ≤ g) (R : Row w' g t vs) : Bxs w (bs ++ [(g, t, vs)]) w' := by
  have one : ∀ (i : Nat) (p : Nat × TypeId × List Value), (bs ++ [(g, t, vs)])[i]? = some p → bs[i]? = some p ∨ (i = bs.length ∧ p = (g, t, vs)) := by
    intro i p hp
    by_cases hi : i < bs.length
    · rw [List.getElem?_append_left hi] at hp; exact .inl hp
    · rw [List.getElem?_append_right (by omega)] at hp
      have : i - bs.length = 0 := by
        by_cases h0 : i - bs.length = 0
        · exact h0
        · rw [List.getElem?_eq_none (by simp; omega)] at hp; cases hp
      rw [this] at hp
      exact .inr ⟨by omega, by simpa using hp.symm⟩
  refine ⟨fun i p hp => ?_, fun i j p q hp hq hne => ?_, h.old.trans o⟩
  · rcases one i p hp with h1 | ⟨_, rfl⟩
    · exact ⟨(h.rows i p h1).1, (h.rows i p h1).2.mono o⟩
    · exact ⟨Nat.le_trans h.old.size hg, R⟩
  · rcases one i p hp with h1 | ⟨e1, rfl⟩ <;> rcases one j q hq with h2 | ⟨e2, rfl⟩
    · exact h.nd i j p q h1 h2 hne
    · have := (h.rows i p h1).2.lt; show p.1 ≠ g; omega
    · have := (h.rows j q h2).2.lt; show g ≠ q.1; omega
    · omega
theorem Bxs.alloc (h : Bxs w bs wr) (t : TypeId) (vs : List Value) {g : Nat} (hg : g = wr.heap.size) : Bxs w (bs ++ [(g, t, vs)]) (wr.alloc (.cells vs.toArray t)) := by
  subst hg
  exact h.add (Old.of_alloc _ _) (Nat.le_refl _) (Row.new _ _ _)
theorem Bxs.grown (h : Bxs w bs wr) (i : Nat) {g : Nat} {t : TypeId} {vs vs' : List Value} (hi : bs[i]? = some (g, t, vs)) (gr : wr.grownBy w' (some g)) (R : Row w' g t vs') : Bxs w (bs.set i (g, t, vs')) w' := by
  have one : ∀ (j : Nat) (p : Nat × TypeId × List Value), (bs.set i (g, t, vs'))[j]? = some p → (j = i ∧ p = (g, t, vs')) ∨ (j ≠ i ∧ bs[j]? = some p) := by
    intro j p hp
    rw [List.getElem?_set] at hp
    by_cases hj : i = j
    · rw [if_pos hj] at hp
      split at hp
      · exact .inl ⟨hj.symm, by simpa using hp.symm⟩
      · cases hp
    · rw [if_neg hj] at hp
      exact .inr ⟨fun e => hj e.symm, hp⟩
  refine ⟨fun j p hp => ?_, fun j k p q hp hq hne => ?_, h.old.grown gr (h.rows i _ hi).1⟩
  · rcases one j p hp with ⟨_, rfl⟩ | ⟨hj, h1⟩
    · exact ⟨(h.rows i _ hi).1, R⟩
    · exact ⟨(h.rows j p h1).1, (h.rows j p h1).2.grown gr (h.nd j i p _ h1 hi hj)⟩
  · rcases one j p hp with ⟨e1, rfl⟩ | ⟨hj, h1⟩ <;> rcases one k q hq with ⟨e2, rfl⟩ | ⟨hk, h2⟩
    · omega
    · exact h.nd i k (g, t, vs) q hi h2 (fun e => hk e.symm)
    · exact h.nd j i p (g, t, vs) h1 hi hj
    · exact h.nd j k p q h1 h2 hne
theorem Bxs.store (h : Bxs w bs wr) (i : Nat) {g : Nat} {t : TypeId} {vs : List Value} (hi : bs[i]? = some (g, t, vs)) (vs' : List Value) (e : w' = wr.setRow g vs'.toArray) : Bxs w (bs.set i (g, t, vs')) w' := by
  subst e
  exact h.grown i hi (grown_setRow _ _ _) ((h.row i hi).whole _)
theorem Bxs.setc (h : Bxs w bs wr) (i : Nat) {g : Nat} {t : TypeId} {vs : List Value} (hi : bs[i]? = some (g, t, vs)) (j : Nat) (u : Value) : Bxs w (bs.set i (g, t, vs.set j u)) (wr.setCell ⟨g, j, none⟩ u) :=
  h.grown i hi (grown_set _ _ _ _) ((h.row i hi).set j u)
end

/-- A new block, apart from all boxes. -/
def Nw (w : World) (bs : List (Nat × TypeId × List Value)) (t : TypeId) (zs : List Value) : Ssx.XP Old :=
  ⟨fun v w' => ∃ g, v = .pointer (some ⟨g, 0, none⟩) ∧ (∀ (i : Nat) (p : Nat × TypeId × List Value), bs[i]? = some p → p.1 ≠ g) ∧ w.heap.size ≤ g ∧ Row w' g t zs, fun _ _ _ ⟨g, h1, h2, h3, h4⟩ o => ⟨g, h1, h2, h3, h4.mono o⟩⟩
theorem Bxs.new {w wr : World} {bs : List (Nat × TypeId × List Value)} (h : Bxs w bs wr) (t : TypeId) (zs : List Value) : ∃ g, Value.pointer (some ⟨wr.heap.size, 0, none⟩) = .pointer (some ⟨g, 0, none⟩) ∧ (∀ (i : Nat) (p : Nat × TypeId × List Value), bs[i]? = some p → p.1 ≠ g) ∧ w.heap.size ≤ g ∧ Row (wr.alloc (.cells zs.toArray t)) g t zs :=
  ⟨_, rfl, fun i p hp => by have := (h.rows i p hp).2.lt; omega, h.old.size, Row.new _ _ _⟩
theorem Bxs.put {w wr : World} {bs : List (Nat × TypeId × List Value)} (h : Bxs w bs wr) {g : Nat} {t : TypeId} {vs : List Value} (hne : ∀ (i : Nat) (p : Nat × TypeId × List Value), bs[i]? = some p → p.1 ≠ g) (hg : w.heap.size ≤ g) (R : Row wr g t vs) : Bxs w (bs ++ [(g, t, vs)]) wr := by
  have one : ∀ (i : Nat) (p : Nat × TypeId × List Value), (bs ++ [(g, t, vs)])[i]? = some p → bs[i]? = some p ∨ (i = bs.length ∧ p = (g, t, vs)) := by
    intro i p hp
    by_cases hi : i < bs.length
    · rw [List.getElem?_append_left hi] at hp; exact .inl hp
    · rw [List.getElem?_append_right (by omega)] at hp
      have : i - bs.length = 0 := by
        by_cases h0 : i - bs.length = 0
        · exact h0
        · rw [List.getElem?_eq_none (by simp; omega)] at hp; cases hp
      rw [this] at hp
      exact .inr ⟨by omega, by simpa using hp.symm⟩
  refine ⟨fun i p hp => ?_, fun i j p q hp hq hn => ?_, h.old⟩
  · rcases one i p hp with h1 | ⟨_, rfl⟩
    · exact h.rows i p h1
    · exact ⟨hg, R⟩
  · rcases one i p hp with h1 | ⟨e1, rfl⟩ <;> rcases one j q hq with h2 | ⟨e2, rfl⟩
    · exact h.nd i j p q h1 h2 hn
    · exact hne i p h1
    · exact fun e => hne j q h2 e.symm
    · omega
theorem Bxs.take {w wr : World} {bs : List (Nat × TypeId × List Value)} (h : Bxs w bs wr) (n : Nat) : Bxs w (bs.take n) wr := by
  have one : ∀ (i : Nat) (p : Nat × TypeId × List Value), (bs.take n)[i]? = some p → bs[i]? = some p := by
    intro i p hp
    rw [List.getElem?_take] at hp
    split at hp
    · exact hp
    · cases hp
  exact ⟨fun i p hp => h.rows i p (one i p hp), fun i j p q hp hq hn => h.nd i j p q (one i p hp) (one j q hq) hn, h.old⟩
end Go.Proofs.YtjbpnhibgafdmaaDoor
