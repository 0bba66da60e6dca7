/-
  What stands ahead of a step of BellPlays, within it, and behind it.
-/
import Derived.Test.YtnmigdcedcmbkaaLaws19b
import Derived.Test.YtnmigdcedcmbkaaFirstM
import Derived.Test.YtnmigdcedcmbkaaSst
namespace Go.Proofs.Ytnmigdcedcmbkaa
open Go.RowKit Bl Pn
set_option linter.unusedVariables false

namespace Bl
theorem stop_at (l : List Mk) (h : One1 l) {j : Nat} (hj : j < l.length) : stopL l (l.getD j (0, 0)).1 = l.take j ++ l.drop (j + 1) := by
  have e : l.getD j (0, 0) = l[j] := by simp [List.getD, hj]
  rcases plc_cases l h (l.getD j (0, 0)).1 with ⟨_, h2⟩ | ⟨i, h1, _, _, h4, h5, _⟩
  · rw [hasL_iff.2 ⟨l[j], List.getElem_mem hj, by rw [e]⟩] at h2
    cases h2
  · rw [h5]
    have e2 : l.getD i (0, 0) = l[i] := by simp [List.getD, h1]
    have hn := h
    unfold One1 at hn
    have hp := List.pairwise_iff_getElem.1 hn
    rw [e, e2] at h4
    rcases Nat.lt_trichotomy i j with hl | hl | hl
    · exact (hp i j (by simpa using h1) (by simpa using hj) hl (by simp [h4])).elim
    · rw [hl]
    · exact (hp j i (by simpa using hj) (by simpa using h1) hl (by simp [h4])).elim
theorem due_at {l : List Mk} {m : Mk} (h : bestL l = some m) {t : Int} (ht : m.2 ≤ t) : dueL l t = some m := by
  unfold dueL
  rw [h]
  simp [ht]
theorem due_no {l : List Mk} {m : Mk} (h : bestL l = some m) {t : Int} (ht : ¬ m.2 ≤ t) : dueL l t = none := by
  unfold dueL
  rw [h]
  simp [ht]
theorem cut_length {l : List Mk} {j : Nat} (hj : j < l.length) : (l.take j ++ l.drop (j + 1)).length + 1 = l.length := by
  rw [List.length_append, List.length_take, List.length_drop]
  omega
end Bl

/-- Ahead of a step, and behind it. -/
structure PlW (K : BellK) (w : World) (g : Addr) (v : Value) (l : List Mk) (i : Nat) (wr : World) : Prop where
  bel : Bel K w (fun q => v.ownBlock = some q) g l wr
  own : OwnsM wr w.heap.size v l
  one : One1 l
  len : l.length ≤ i
/-- Within a step: the bell holds lb, the law's slice lo. -/
structure PlX (K : BellK) (w : World) (g : Addr) (v : Value) (lb lo : List Mk) (gx : Nat) (xa xw xt : Int) (wr : World) : Prop where
  bel : Bel K w (fun q => v.ownBlock = some q ∨ q = gx) g lb wr
  own : OwnsM wr w.heap.size v lo
  box : Row wr gx 28 [.int .i64 xa, .int .i64 xw, .int .i64 xt]
  ne : v.ownBlock ≠ some gx
  le : w.heap.size ≤ gx
section
variable {K : BellK} {w wr : World} {g : Addr} {v : Value} {lb lo : List Mk} {gx : Nat} {xa xw xt : Int}
theorem PlX.c0 (h : PlX K w g v lb lo gx xa xw xt wr) : wr.cell? ⟨gx, 0, none⟩ = some (.int .i64 xa) := h.box.cell (i := 0) rfl
theorem PlX.c1 (h : PlX K w g v lb lo gx xa xw xt wr) : wr.cell? ⟨gx, 1, none⟩ = some (.int .i64 xw) := h.box.cell (i := 1) rfl
theorem PlX.c2 (h : PlX K w g v lb lo gx xa xw xt wr) : wr.cell? ⟨gx, 2, none⟩ = some (.int .i64 xt) := h.box.cell (i := 2) rfl
theorem PlX.start {i : Nat} (h : PlW K w g v lo i wr) : PlX K w g v lo lo wr.heap.size xa xw xt (wr.alloc (.cells #[.int .i64 xa, .int .i64 xw, .int .i64 xt] 28)) := by
  have R := Row.new wr 28 [.int .i64 xa, .int .i64 xw, .int .i64 xt]
  have O := Old.of_alloc wr (.cells #[.int .i64 xa, .int .i64 xw, .int .i64 xt] 28)
  refine ⟨h.bel.again O fun q hq => ?_, h.own.mono O, R, fun e => ?_, h.bel.old.size⟩
  · rcases hq with hq | rfl
    · exact ⟨.inl hq, Nat.lt_of_lt_of_le (h.own.lt hq).2 O.size⟩
    · exact ⟨.inr (Nat.le_refl _), R.lt⟩
  · have := (h.own.lt e).2
    omega
theorem PlX.mono {w' : World} (h : PlX K w g v lb lo gx xa xw xt wr) (o : Old wr w') : PlX K w g v lb lo gx xa xw xt w' := ⟨h.bel.mono o, h.own.mono o, h.box.mono o, h.ne, h.le⟩
theorem PlX.call {w' : World} {lb' : List Mk} (h : PlX K w g v lb lo gx xa xw xt wr) (b : Bel K w (fun q => v.ownBlock = some q ∨ q = gx) g lb' w') (k : Kept (fun q => v.ownBlock = some q ∨ q = gx) wr w') : PlX K w g v lb' lo gx xa xw xt w' := by
  refine ⟨b, ?_, k.row h.box (.inr rfl), h.ne, h.le⟩
  obtain ⟨h1, h2⟩ := h.own
  refine ⟨h1, ?_⟩
  rcases h2 with h2 | ⟨q, cap, cur, rfl, h4, h5, h6⟩
  · exact .inl h2
  · exact .inr ⟨q, cap, cur, rfl, h4, (k.2 q (.inl rfl)).trans h5, h6⟩
/-- The law's slice is another one now. -/
theorem PlX.turn {w' : World} {v' : Value} {lo' : List Mk} (h : PlX K w g v lb lo gx xa xw xt wr) (gr : wr.grownBy w' v.ownBlock) (o : OwnsM w' w.heap.size v' lo') (hv : ∀ q, v'.ownBlock = some q → v.ownBlock = some q ∨ wr.heap.size ≤ q) : PlX K w g v' lb lo' gx xa xw xt w' := by
  have hx := h.box.lt
  refine ⟨h.bel.more gr (fun q e => ⟨.inl e, (h.own.lt e).1⟩) fun q hq => ?_, o, (gr.block gx hx fun e => h.ne e.symm).trans h.box, fun e => ?_, h.le⟩
  · rcases hq with hq | rfl
    · refine ⟨?_, (o.lt hq).2⟩
      rcases hv q hq with q1 | q1
      · exact .inl (.inl q1)
      · exact .inr q1
    · exact ⟨.inl (.inr rfl), Nat.lt_of_lt_of_le hx gr.size⟩
  · rcases hv gx e with q1 | q1
    · exact h.ne q1
    · omega
theorem PlX.rd {a : Option Addr} {n c : Nat} (h : PlX K w g (.slice a n c) lb lo gx xa xw xt wr) (hn : lo.length = n) : MkIn wr a lo := by
  obtain ⟨a', c', e, -, m⟩ := h.own.rd
  cases e
  exact m
theorem PlX.fin {l : List Mk} {i : Nat} (h : PlX K w g v l l gx xa xw xt wr) (h1 : One1 l) (hl : l.length ≤ i) : PlW K w g v l i wr :=
  ⟨h.bel.again (Old.refl _) fun q hq => ⟨.inl (.inl hq), (h.own.lt hq).2⟩, h.own, h1, hl⟩
end

end Go.Proofs.Ytnmigdcedcmbkaa
