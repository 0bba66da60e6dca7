/-
  What each call of package bell owes (P19.1).
-/
import Derived.Test.YtnmigdcedcmbkaaProg
import Derived.Test.YtnmigdcedcmbkaaBellN
import Derived.Test.YtnmigdcedcmbkaaMem
import Derived.Test.YtnmigdcedcmbkaaPlanN
namespace Go.Proofs.Ytnmigdcedcmbkaa
open Go.RowKit Bl Pn
set_option linter.unusedVariables false

/-- Of what was there, the blocks B alone may have turned; B' are those, or new. -/
structure Chg (B B' : Nat → Prop) (w w' : World) : Prop where
  os : w'.os = w.os
  tape : w'.tape = w.tape
  output : w'.output = w.output
  size : w.heap.size ≤ w'.heap.size
  block : ∀ k, k < w.heap.size → ¬ B k → w'.heap[k]? = w.heap[k]?
  own : ∀ g, B' g → B g ∨ w.heap.size ≤ g
theorem Chg.refl (B : Nat → Prop) (w : World) : Chg B B w w := ⟨rfl, rfl, rfl, Nat.le_refl _, fun _ _ _ => rfl, fun _ h => .inl h⟩
theorem Chg.old {B B' : Nat → Prop} {n : Nat} {w0 w w' : World} (h : Chg B B' w w') (o : Below n w0 w) (hn : n ≤ w.heap.size) (hB : ∀ g, B g → n ≤ g) : Below n w0 w' :=
  ⟨h.os.trans o.os, h.tape.trans o.tape, h.output.trans o.output, Nat.le_trans o.size h.size, fun k hk => (h.block k (by omega) (fun hb => by have := hB k hb; omega)).trans (o.block k hk)⟩
theorem Chg.ge {B B' : Nat → Prop} {n : Nat} {w w' : World} (h : Chg B B' w w') (hn : n ≤ w.heap.size) (hB : ∀ g, B g → n ≤ g) : ∀ g, B' g → n ≤ g := fun g hg => by
  rcases h.own g hg with h1 | h1
  · exact hB g h1
  · omega
theorem Chg.not {B B' : Nat → Prop} {w w' : World} (h : Chg B B' w w') {g : Nat} (hg : g < w.heap.size) (hB : ¬ B g) : ¬ B' g := fun hb => by
  rcases h.own g hb with h1 | h1
  · exact hB h1
  · omega

/-- Bells: 'Is B a l w': at address a lies a bell that will ring for those of l; its blocks are B. -/
structure BellK where
  Is : (Nat → Prop) → Addr → List Mk → World → Prop
  stay : ∀ {B a l w w'}, Is B a l w → (∀ g, B g → w'.heap[g]? = w.heap[g]?) → Is B a l w'
  dom : ∀ {B a l w}, Is B a l w → ∀ g, B g → g < w.heap.size
  newK : ∀ (w : World), Calls Try.prog 7 #[] w fun e w' => ∃ B a, e = .returned (.pointer (some a)) ∧ Is B a [] w' ∧ (∀ g, B g → w.heap.size ≤ g) ∧ Old w w'
  setK : ∀ (B : Nat → Prop) (a : Addr) (l : List Mk) (who t : Int) (w : World), Is B a l w → One1 l → l.length ≤ 1000 → B64 who → B64 t → Calls Try.prog 9 #[.pointer (some a), .int .i64 who, .int .i64 t] w fun e w' =>
    ∃ B', e = .returned (.int .i64 (setE t : Nat)) ∧ Is B' a (if setE t = 0 then setL l who t else l) w' ∧ Chg B B' w w'
  stopK : ∀ (B : Nat → Prop) (a : Addr) (l : List Mk) (who : Int) (w : World), Is B a l w → One1 l → l.length ≤ 1000 → B64 who → Calls Try.prog 10 #[.pointer (some a), .int .i64 who] w fun e w' =>
    ∃ B', e = .returned (.bool (hasL l who)) ∧ Is B' a (stopL l who) w' ∧ Chg B B' w w'
  noneK : ∀ (B : Nat → Prop) (a : Addr) (l : List Mk) (now : Int) (w : World), Is B a l w → One1 l → l.length ≤ 1000 → dueL l now = none → Calls Try.prog 12 #[.pointer (some a), .int .i64 now] w fun e w' =>
    ∃ B', e = .returned (.tuple #[.int .i64 0, .bool false]) ∧ Is B' a l w' ∧ Chg B B' w w'
  dueK : ∀ (B : Nat → Prop) (a : Addr) (l : List Mk) (now : Int) (m : Mk) (w : World), Is B a l w → One1 l → l.length ≤ 1000 → dueL l now = some m → Calls Try.prog 12 #[.pointer (some a), .int .i64 now] w fun e w' =>
    ∃ B', e = .returned (.tuple #[.int .i64 m.1, .bool true]) ∧ Is B' a (stopL l m.1) w' ∧ Chg B B' w w'
  emptyK : ∀ (B : Nat → Prop) (a : Addr) (w : World), Is B a [] w → Calls Try.prog 13 #[.pointer (some a)] w fun e w' =>
    ∃ B', e = .returned (.tuple #[.int .i64 0, .bool false]) ∧ Is B' a [] w' ∧ Chg B B' w w'
  nextK : ∀ (B : Nat → Prop) (a : Addr) (l : List Mk) (m : Mk) (w : World), Is B a l w → One1 l → l.length ≤ 1000 → bestL l = some m → Calls Try.prog 13 #[.pointer (some a)] w fun e w' =>
    ∃ B', e = .returned (.tuple #[.int .i64 m.2, .bool true]) ∧ Is B' a l w' ∧ Chg B B' w w'
  nilSet : ∀ (who t : Int) (w : World), Calls Try.prog 9 #[.pointer none, .int .i64 who, .int .i64 t] w fun e w' => e = .returned (.int .i64 1) ∧ Old w w'
  nilStop : ∀ (who : Int) (w : World), Calls Try.prog 10 #[.pointer none, .int .i64 who] w fun e w' => e = .returned (.bool false) ∧ Old w w'
  nilStrike : ∀ (now : Int) (w : World), Calls Try.prog 12 #[.pointer none, .int .i64 now] w fun e w' => e = .returned (.tuple #[.int .i64 0, .bool false]) ∧ Old w w'
  nilNext : ∀ (w : World), Calls Try.prog 13 #[.pointer none] w fun e w' => e = .returned (.tuple #[.int .i64 0, .bool false]) ∧ Old w w'

/-- A bell of the call's own; the blocks Kp are not its. -/
structure Bel (K : BellK) (w0 : World) (Kp : Nat → Prop) (a : Addr) (l : List Mk) (w : World) : Prop where
  own : ∃ B, K.Is B a l w ∧ ∀ g, B g → w0.heap.size ≤ g ∧ ¬ Kp g
  lt : ∀ g, Kp g → g < w.heap.size
  old : Old w0 w
/-- These blocks have not turned. -/
def Kept (Kp : Nat → Prop) (w w' : World) : Prop := w.heap.size ≤ w'.heap.size ∧ ∀ g, Kp g → w'.heap[g]? = w.heap[g]?
def nix : Nat → Prop := fun _ => False
section
variable {K : BellK} {w0 w : World} {Kp : Nat → Prop} {a : Addr} {l : List Mk}
theorem Kept.row {w' : World} (h : Kept Kp w w') {g : Nat} {t : TypeId} {vs : List Value} (r : Row w g t vs) (hg : Kp g) : Row w' g t vs := (h.2 g hg).trans r
theorem Kept.trans {w' w'' : World} (h : Kept Kp w w') (k : Kept Kp w' w'') : Kept Kp w w'' := ⟨Nat.le_trans h.1 k.1, fun g hg => (k.2 g hg).trans (h.2 g hg)⟩
theorem Kept.refl (Kp : Nat → Prop) (w : World) : Kept Kp w w := ⟨Nat.le_refl _, fun _ _ => rfl⟩
theorem Bel.again {w' : World} {Kp' : Nat → Prop} (h : Bel K w0 Kp a l w) (o : Old w w') (hk : ∀ g, Kp' g → (Kp g ∨ w.heap.size ≤ g) ∧ g < w'.heap.size) : Bel K w0 Kp' a l w' := by
  obtain ⟨⟨B, h1, h2⟩, h4, h3⟩ := h
  refine ⟨⟨B, K.stay h1 fun g hg => o.block g (K.dom h1 g hg), fun g hg => ⟨(h2 g hg).1, fun hk' => ?_⟩⟩, fun g hg => (hk g hg).2, h3.trans o⟩
  rcases (hk g hk').1 with q | q
  · exact (h2 g hg).2 q
  · have := K.dom h1 g hg
    omega
theorem Bel.more {w' : World} {Kp' : Nat → Prop} {row : Option Nat} (h : Bel K w0 Kp a l w) (gr : w.grownBy w' row) (hr : ∀ g, row = some g → Kp g ∧ w0.heap.size ≤ g) (hk : ∀ g, Kp' g → (Kp g ∨ w.heap.size ≤ g) ∧ g < w'.heap.size) : Bel K w0 Kp' a l w' := by
  obtain ⟨⟨B, h1, h2⟩, h4, h3⟩ := h
  refine ⟨⟨B, K.stay h1 fun g hg => gr.block g (K.dom h1 g hg) (fun e => (h2 g hg).2 (hr g e.symm).1), fun g hg => ⟨(h2 g hg).1, fun hk' => ?_⟩⟩, fun g hg => (hk g hg).2, Below.grown h3 gr h3.size fun g e => (hr g e).2⟩
  rcases (hk g hk').1 with q | q
  · exact (h2 g hg).2 q
  · have := K.dom h1 g hg
    omega
theorem Bel.mono {w' : World} (h : Bel K w0 Kp a l w) (o : Old w w') : Bel K w0 Kp a l w' := h.again o fun g hg => ⟨.inl hg, Nat.lt_of_lt_of_le (h.lt g hg) o.size⟩
theorem Bel.grown {w' : World} {g : Nat} (h : Bel K w0 Kp a l w) (gr : w.grownBy w' (some g)) (hg : Kp g) (hb : w0.heap.size ≤ g) : Bel K w0 Kp a l w' := by
  obtain ⟨⟨B, h1, h2⟩, h4, h3⟩ := h
  exact ⟨⟨B, K.stay h1 fun i hi => gr.block i (K.dom h1 i hi) (fun e => by cases e; exact (h2 g hi).2 hg), h2⟩, fun i hi => Nat.lt_of_lt_of_le (h4 i hi) gr.size, h3.grown gr hb⟩
theorem Bel.new (K : BellK) {w0 w : World} (o : Old w0 w) : Calls Try.prog 7 #[] w fun e w' => ∃ a, e = .returned (.pointer (some a)) ∧ Bel K w0 nix a [] w' :=
  (K.newK w).mono fun e w' ⟨B, a, he, h1, h2, h3⟩ => ⟨a, he, ⟨B, h1, fun g hg => ⟨Nat.le_trans o.size (h2 g hg), fun h => h⟩⟩, fun g h => h.elim, o.trans h3⟩
theorem Bel.step {B B' : Nat → Prop} {l' : List Mk} {w' : World} (o : Old w0 w) (hB : ∀ g, B g → w0.heap.size ≤ g ∧ ¬ Kp g) (hk : ∀ g, Kp g → g < w.heap.size) (h : K.Is B' a l' w') (c : Chg B B' w w') : Bel K w0 Kp a l' w' ∧ Kept Kp w w' :=
  ⟨⟨⟨B', h, fun g hg => ⟨c.ge o.size (fun i hi => (hB i hi).1) g hg, fun hkg => c.not (hk g hkg) (fun hb => (hB g hb).2 hkg) hg⟩⟩, fun g hg => Nat.lt_of_lt_of_le (hk g hg) c.size, c.old o o.size fun i hi => (hB i hi).1⟩,
    c.size, fun g hg => c.block g (hk g hg) fun hb => (hB g hb).2 hg⟩
theorem Bel.set (h : Bel K w0 Kp a l w) (who t : Int) (h1 : One1 l) (hl : l.length ≤ 1000) (hw : B64 who) (ht : B64 t) :
    Calls Try.prog 9 #[.pointer (some a), .int .i64 who, .int .i64 t] w fun e w' => e = .returned (.int .i64 (setE t : Nat)) ∧ Bel K w0 Kp a (if setE t = 0 then setL l who t else l) w' ∧ Kept Kp w w' := by
  obtain ⟨⟨B, h2, h3⟩, hk, o⟩ := h
  exact (K.setK B a l who t w h2 h1 hl hw ht).mono fun e w' ⟨B', he, h4, h5⟩ => ⟨he, Bel.step o h3 hk h4 h5⟩
theorem Bel.stop (h : Bel K w0 Kp a l w) (who : Int) (h1 : One1 l) (hl : l.length ≤ 1000) (hw : B64 who) :
    Calls Try.prog 10 #[.pointer (some a), .int .i64 who] w fun e w' => e = .returned (.bool (hasL l who)) ∧ Bel K w0 Kp a (stopL l who) w' ∧ Kept Kp w w' := by
  obtain ⟨⟨B, h2, h3⟩, hk, o⟩ := h
  exact (K.stopK B a l who w h2 h1 hl hw).mono fun e w' ⟨B', he, h4, h5⟩ => ⟨he, Bel.step o h3 hk h4 h5⟩
theorem Bel.no (h : Bel K w0 Kp a l w) (now : Int) (h1 : One1 l) (hl : l.length ≤ 1000) (hd : dueL l now = none) :
    Calls Try.prog 12 #[.pointer (some a), .int .i64 now] w fun e w' => e = .returned (.tuple #[.int .i64 0, .bool false]) ∧ Bel K w0 Kp a l w' ∧ Kept Kp w w' := by
  obtain ⟨⟨B, h2, h3⟩, hk, o⟩ := h
  exact (K.noneK B a l now w h2 h1 hl hd).mono fun e w' ⟨B', he, h4, h5⟩ => ⟨he, Bel.step o h3 hk h4 h5⟩
theorem Bel.due (h : Bel K w0 Kp a l w) (now : Int) (m : Mk) (h1 : One1 l) (hl : l.length ≤ 1000) (hd : dueL l now = some m) :
    Calls Try.prog 12 #[.pointer (some a), .int .i64 now] w fun e w' => e = .returned (.tuple #[.int .i64 m.1, .bool true]) ∧ Bel K w0 Kp a (stopL l m.1) w' ∧ Kept Kp w w' := by
  obtain ⟨⟨B, h2, h3⟩, hk, o⟩ := h
  exact (K.dueK B a l now m w h2 h1 hl hd).mono fun e w' ⟨B', he, h4, h5⟩ => ⟨he, Bel.step o h3 hk h4 h5⟩
theorem Bel.empty (h : Bel K w0 Kp a [] w) :
    Calls Try.prog 13 #[.pointer (some a)] w fun e w' => e = .returned (.tuple #[.int .i64 0, .bool false]) ∧ Bel K w0 Kp a [] w' ∧ Kept Kp w w' := by
  obtain ⟨⟨B, h2, h3⟩, hk, o⟩ := h
  exact (K.emptyK B a w h2).mono fun e w' ⟨B', he, h4, h5⟩ => ⟨he, Bel.step o h3 hk h4 h5⟩
theorem Bel.next (h : Bel K w0 Kp a l w) (m : Mk) (h1 : One1 l) (hl : l.length ≤ 1000) (hd : bestL l = some m) :
    Calls Try.prog 13 #[.pointer (some a)] w fun e w' => e = .returned (.tuple #[.int .i64 m.2, .bool true]) ∧ Bel K w0 Kp a l w' ∧ Kept Kp w w' := by
  obtain ⟨⟨B, h2, h3⟩, hk, o⟩ := h
  exact (K.nextK B a l m w h2 h1 hl hd).mono fun e w' ⟨B', he, h4, h5⟩ => ⟨he, Bel.step o h3 hk h4 h5⟩
end
end Go.Proofs.Ytnmigdcedcmbkaa
