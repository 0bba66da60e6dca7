/-
  The landed bell owes what a bell owes: bellK.
-/
import Derived.Test.YtnmigdcedcmbkaaBellW
namespace Go.Proofs.Ytnmigdcedcmbkaa
open Go.RowKit Bl Hp Pn
set_option linter.unusedVariables false

def Is19 (B : Nat → Prop) (a : Addr) (l : List Mk) (w : World) : Prop := ∃ bb, a = ⟨bb, 0, none⟩ ∧ (∀ q, B q → q < w.heap.size) ∧ St19 w.heap.size B bb l w
theorem St19.lt {N : Nat} {B : Nat → Prop} {bb : Nat} {l : List Mk} {w : World} (h : St19 N B bb l w) : bb < w.heap.size := by
  rcases h.lies with ⟨_, r⟩ | ⟨gm, hm, xs, ms, F, P⟩
  · exact r.lt
  · obtain ⟨v, r, _⟩ := F.hp.arr
    exact r.lt
theorem St19.move {N : Nat} {B : Nat → Prop} {bb : Nat} {l : List Mk} {w : World} (h : St19 N B bb l w) {N' : Nat} {B' : Nat → Prop} {w' : World} (hB : ∀ q, q < w.heap.size → (B q ∨ N ≤ q) → (B' q ∨ N' ≤ q)) (hN : N' ≤ w'.heap.size) (hb : ∀ q, q < w.heap.size → (B q ∨ N ≤ q) → w'.heap[q]? = w.heap[q]?) : St19 N' B' bb l w' := by
  refine ⟨hN, hB bb h.lt h.its, ?_⟩
  rcases h.lies with ⟨e, r⟩ | ⟨gm, hm, xs, ms, F, P⟩
  · exact .inl ⟨e, (hb bb r.lt h.its).trans r⟩
  · exact .inr ⟨gm, _, xs, ms, F.move hB hN hb, P⟩
theorem Is19.lift {B : Nat → Prop} {bb : Nat} {l : List Mk} {w w' : World} (h : St19 w.heap.size B bb l w') (f : Fr w.heap.size B w w') : ∃ B', Is19 B' ⟨bb, 0, none⟩ l w' ∧ Chg B B' w w' :=
  ⟨fun q => (B q ∨ w.heap.size ≤ q) ∧ q < w'.heap.size, ⟨bb, rfl, fun q hq => hq.2, h.move (fun q h1 h2 => .inl ⟨h2, h1⟩) (Nat.le_refl _) (fun _ _ _ => rfl)⟩, ⟨f.os, f.tape, f.output, f.size, f.block, fun g hg => hg.1⟩⟩

theorem new19 (w : World) : Calls Try.prog 7 #[] w fun e w' => ∃ B a, e = .returned (.pointer (some a)) ∧ Is19 B a [] w' ∧ (∀ g, B g → w.heap.size ≤ g) ∧ Old w w' := by
  obtain ⟨w1, hw1⟩ : ∃ w1, w1 = w.alloc (.cells #[.slice none 0 0, .map none] 49) := ⟨_, rfl⟩
  have O : Old w w1 := by rw [hw1]; exact Old.of_alloc _ _
  have R : Row w1 w.heap.size 49 [.slice none 0 0, .map none] := by rw [hw1]; exact Row.new w _ _
  have E : Hid (Is19 (fun q => q = w.heap.size) ⟨w.heap.size, 0, none⟩ [] w1) := ⟨_, rfl, fun q h => by rw [h]; exact R.lt, Nat.le_refl _, .inl rfl, .inl ⟨rfl, R⟩⟩
  have OO := hide O
  have EE := hide hw1
  clear O R hw1
  go_enter Try.func7, Try.ntmps7
  go_wp2_with fail
  go_ret
  rw [← EE.out]
  exact ⟨_, _, rfl, E.out, fun g h => Nat.le_of_eq h.symm, OO.out⟩

theorem nilSet19 (who t : Int) (w : World) : Calls Try.prog 9 #[.pointer none, .int .i64 who, .int .i64 t] w fun e w' => e = .returned (.int .i64 1) ∧ Old w w' := by
  go_enter Try.func9, Try.ntmps9
  go_wp2_with fail
  go_ret
  exact ⟨rfl, Old.refl w⟩
theorem nilStop19 (who : Int) (w : World) : Calls Try.prog 10 #[.pointer none, .int .i64 who] w fun e w' => e = .returned (.bool false) ∧ Old w w' := by
  go_enter Try.func10, Try.ntmps10
  go_wp2_with fail
  go_ret
  exact ⟨rfl, Old.refl w⟩
theorem nilNext19 (w : World) : Calls Try.prog 13 #[.pointer none] w fun e w' => e = .returned (.tuple #[.int .i64 0, .bool false]) ∧ Old w w' := by
  go_enter Try.func13, Try.ntmps13
  go_wp2_with fail
  go_ret2
  exact ⟨rfl, Old.refl w⟩
theorem nilStrike19 (now : Int) (w : World) : Calls Try.prog 12 #[.pointer none, .int .i64 now] w fun e w' => e = .returned (.tuple #[.int .i64 0, .bool false]) ∧ Old w w' := by
  have C := hide (nilNext19 w)
  go_enter Try.func12, Try.ntmps12
  go_wp2_with fail
  refine C.out.mono ?_
  rintro e w1 ⟨rfl, o⟩
  clear C
  have OO := hide o
  clear o
  go_wp2
  go_ret2
  exact ⟨rfl, OO.out⟩

def bellK : BellK where
  Is := Is19
  stay := fun {B a l w w'} ⟨bb, e, h1, h2⟩ hb => by
    have inB : ∀ q, q < w.heap.size → (B q ∨ w.heap.size ≤ q) → B q := fun q hq h => h.elim id fun h => absurd h (by omega)
    refine ⟨bb, e, fun q hq => ?_, h2.move (fun q hq h => .inl (inB q hq h)) (Nat.le_refl _) fun q hq h => hb q (inB q hq h)⟩
    have h3 := h1 q hq
    have h4 := hb q hq
    rw [Array.getElem?_eq_getElem h3] at h4
    exact (Array.getElem?_eq_some_iff.1 h4).1
  dom := fun ⟨_, _, h, _⟩ => h
  newK := new19
  setK := fun B a l who t w ⟨bb, e, h1, h2⟩ o hl hw ht => by
    subst e
    refine (set19 h2 o hl who t hw ht).mono fun e w' ⟨he, s, f⟩ => ?_
    obtain ⟨B', i, c⟩ := Is19.lift s f
    exact ⟨B', he, i, c⟩
  stopK := fun B a l who w ⟨bb, e, h1, h2⟩ o hl hw => by
    subst e
    refine (stop19 h2 o who hw).mono fun e w' ⟨he, s, f⟩ => ?_
    obtain ⟨B', i, c⟩ := Is19.lift s f
    exact ⟨B', he, i, c⟩
  noneK := fun B a l now w ⟨bb, e, h1, h2⟩ o hl hd => by
    subst e
    refine (strike19_none h2 now hd).mono fun e w' ⟨he, hw⟩ => ?_
    subst hw
    obtain ⟨B', i, c⟩ := Is19.lift h2 (Fr.refl _ _ _)
    exact ⟨B', he, i, c⟩
  dueK := fun B a l now m w ⟨bb, e, h1, h2⟩ o hl hd => by
    subst e
    refine (strike19_some h2 o now m hd).mono fun e w' ⟨he, s, f⟩ => ?_
    obtain ⟨B', i, c⟩ := Is19.lift s f
    exact ⟨B', he, i, c⟩
  emptyK := fun B a w ⟨bb, e, h1, h2⟩ => by
    subst e
    refine (next19_none h2).mono fun e w' ⟨he, hw⟩ => ?_
    subst hw
    obtain ⟨B', i, c⟩ := Is19.lift h2 (Fr.refl _ _ _)
    exact ⟨B', he, i, c⟩
  nextK := fun B a l m w ⟨bb, e, h1, h2⟩ o hl hd => by
    subst e
    refine (next19_some h2 m hd).mono fun e w' ⟨he, hw⟩ => ?_
    subst hw
    obtain ⟨B', i, c⟩ := Is19.lift h2 (Fr.refl _ _ _)
    exact ⟨B', he, i, c⟩
  nilSet := nilSet19
  nilStop := nilStop19
  nilStrike := nilStrike19
  nilNext := nilNext19
end Go.Proofs.Ytnmigdcedcmbkaa
