/-
  The landed bell's list of moments: what lies in memory; Len, Less, Swap.
-/
import Derived.Test.YtnmigdcedcmbkaaHeapJ
import Derived.Test.YtnmigdcedcmbkaaBellC
import Derived.Laws.AppendOwn
import Derived.Test.YtnmigdcedcmbkaaCalm
namespace Go.Proofs.Ytnmigdcedcmbkaa
open Go.RowKit Bl Hp
set_option linter.unusedVariables false

/-- A moment: its block, for whom, when. -/
abbrev El := Nat × Mk
def ptrs (xs : List El) : List Value := xs.map fun x => .pointer (some ⟨x.1, 0, none⟩)
theorem ptrs_length (xs : List El) : (ptrs xs).length = xs.length := by simp [ptrs]
theorem ptrs_at {xs : List El} {i : Nat} {x : El} (h : xs[i]? = some x) : (ptrs xs)[i]? = some (.pointer (some ⟨x.1, 0, none⟩)) := by simp [ptrs, h]
def momV (x : El) (p : Nat) : List Value := [.int .i64 x.2.1, .int .i64 x.2.2, .int .i64 (p : Int)]
/-- At block q lies a moment for whom and when m tells. -/
def Mom (w : World) (q : Nat) (m : Mk) : Prop := ∃ p : Int, Row w q 53 [.int .i64 m.1, .int .i64 m.2, .int .i64 p]
theorem Row.one {w : World} {g : Nat} {t t' : TypeId} {vs vs' : List Value} (h : Row w g t vs) (k : Row w g t' vs') : t = t' := by
  have := h.symm.trans k
  simp at this
  exact this.2
theorem Mom.not {w : World} {q : Nat} {t : TypeId} {vs : List Value} (h : Row w q t vs) (ht : t ≠ 53) (m : Mk) : ¬ Mom w q m := fun ⟨_, k⟩ => ht (h.one k)
theorem Mom.grown {w w' : World} {q : Nat} {m : Mk} {r : Option Nat} (h : Mom w q m) (g : w.grownBy w' r) (hr : r ≠ some q) : Mom w' q m := by
  obtain ⟨p, k⟩ := h
  exact ⟨p, (g.block q k.lt (fun e => hr e.symm)).trans k⟩
theorem Mom.set2 {w : World} {q : Nat} {m : Mk} (h : Mom w q m) (z : Int) : Mom (w.setCell ⟨q, 2, none⟩ (.int .i64 z)) q m := by
  obtain ⟨p, k⟩ := h
  exact ⟨z, k.set 2 _⟩
theorem Mom.old {w w' : World} {q : Nat} {m : Mk} (h : Mom w q m) (o : Old w w') : Mom w' q m := by
  obtain ⟨p, k⟩ := h
  exact ⟨p, k.mono o⟩
/-- What the bell's calls may turn: its own blocks B, and whatever is new since N; a moment stays for whom and when it is. -/
structure Fr (N : Nat) (B : Nat → Prop) (w w' : World) : Prop where
  os : w'.os = w.os
  tape : w'.tape = w.tape
  output : w'.output = w.output
  size : w.heap.size ≤ w'.heap.size
  block : ∀ k, k < N → ¬ B k → w'.heap[k]? = w.heap[k]?
  keep : ∀ q m, Mom w q m → Mom w' q m
theorem Fr.refl (N : Nat) (B : Nat → Prop) (w : World) : Fr N B w w := ⟨rfl, rfl, rfl, Nat.le_refl _, fun _ _ _ => rfl, fun _ _ h => h⟩
theorem Fr.trans {N : Nat} {B : Nat → Prop} {a b c : World} (h : Fr N B a b) (k : Fr N B b c) : Fr N B a c :=
  ⟨k.os.trans h.os, k.tape.trans h.tape, k.output.trans h.output, Nat.le_trans h.size k.size, fun i hi hb => (k.block i hi hb).trans (h.block i hi hb), fun q m hm => k.keep q m (h.keep q m hm)⟩
theorem Fr.drewN (N : Nat) (B : Nat → Prop) (w : World) (n : Nat) : Fr N B w (w.drewN n) := by
  have o := Old.of_drewN w n
  exact ⟨o.os, o.tape, o.output, o.size, fun _ _ _ => rfl, fun _ _ h => h.old o⟩
theorem Fr.grown {N : Nat} {B : Nat → Prop} {a b : World} {r : Option Nat} (g : a.grownBy b r) (hr : ∀ q, r = some q → B q ∨ N ≤ q) (hN : N ≤ a.heap.size) (hk : ∀ q, r = some q → ∀ m, Mom a q m → Mom b q m) : Fr N B a b :=
  ⟨g.os, g.tape, g.output, g.size, fun k hk hb => g.block k (by omega) fun e => by
    rcases hr k e.symm with h | h
    · exact hb h
    · omega, fun q m h => by
    by_cases e : r = some q
    · exact hk q e m h
    · exact h.grown g e⟩
theorem own_row {w : World} {t : TypeId} {v : Value} {n : Nat} {vs : List Value} (h : w.ownsRow 0 t 1 v n vs) {q : Nat} (hq : v.ownBlock = some q) : ∃ cs, Row w q t cs := by
  obtain ⟨_, h2⟩ := h
  rcases h2 with ⟨rfl, e⟩ | ⟨g, cap, cur, rfl, _, o3, _⟩
  · cases hq
  · cases hq
    exact ⟨cur.toList, by simpa [Row] using o3⟩

/-- The bell at block bb, with its map at gm (which holds hm) and its moments xs. -/
structure HpSt (N : Nat) (B : Nat → Prop) (bb gm : Nat) (hm : Option Obj) (xs : List El) (w : World) : Prop where
  arr : ∃ v, Row w bb 49 [v, .map (some gm)] ∧ w.ownsRow 0 51 1 v xs.length (ptrs xs) ∧ ∀ q, v.ownBlock = some q → (B q ∨ N ≤ q) ∧ q ≠ bb ∧ q ≠ gm ∧ ∀ x ∈ xs, x.1 ≠ q
  each : ∀ i x, xs[i]? = some x → Row w x.1 53 (momV x i)
  own : ∀ x ∈ xs, (B x.1 ∨ N ≤ x.1) ∧ x.1 ≠ bb ∧ x.1 ≠ gm
  apart : (xs.map (·.1)).Nodup
  map : w.heap[gm]? = hm
  two : bb ≠ gm ∧ (B bb ∨ N ≤ bb) ∧ (B gm ∨ N ≤ gm)
  few : xs.length ≤ 100000
  new : N ≤ w.heap.size
  mlt : gm < w.heap.size
section
variable {N : Nat} {B : Nat → Prop} {bb gm : Nat} {hm : Option Obj} {xs : List El} {w : World}
theorem HpSt.drewN (h : HpSt N B bb gm hm xs w) (n : Nat) : HpSt N B bb gm hm xs (w.drewN n) := ⟨h.arr, h.each, h.own, h.apart, h.map, h.two, h.few, h.new, h.mlt⟩
theorem HpSt.at (h : HpSt N B bb gm hm xs w) : ∃ a cap, w.cell? ⟨bb, 0, none⟩ = some (.slice a xs.length cap) := by
  obtain ⟨v, r, ⟨_, o⟩, _⟩ := h.arr
  rcases o with ⟨rfl, h0⟩ | ⟨g, cap, cur, rfl, _⟩
  · exact ⟨none, 0, by rw [r.cell (i := 0) rfl, h0]⟩
  · exact ⟨_, cap, r.cell (i := 0) rfl⟩
/-- The pointer at place i, and what lies behind it. -/
theorem HpSt.ptr (h : HpSt N B bb gm hm xs w) {a : Option Addr} {cap : Nat} (hc : w.cell? ⟨bb, 0, none⟩ = some (.slice a xs.length cap)) {i : Nat} (hi : i < xs.length) :
    ∃ g, a = some ⟨g, 0, none⟩ ∧ w.cell? ⟨g, i, none⟩ = some (.pointer (some ⟨(xs.getD i default).1, 0, none⟩)) ∧ w.frozen? ⟨g, i, none⟩ = false ∧ Row w (xs.getD i default).1 53 (momV (xs.getD i default) i) := by
  obtain ⟨v, r, ⟨_, o⟩, _⟩ := h.arr
  have e : xs.getD i default = xs[i] := by simp [List.getD, hi]
  rcases o with ⟨rfl, h0⟩ | ⟨g, cap', cur, rfl, _, hb, _, _, _, hcur⟩
  · omega
  · have := r.cell (i := 0) rfl
    rw [hc] at this
    cases this
    rw [e]
    refine ⟨g, rfl, ?_, by simp [World.frozen?, hb], h.each i _ (by simp [hi])⟩
    have hp := ptrs_at (xs := xs) (i := i) (x := xs[i]) (by simp [hi])
    rw [← hcur, List.getElem?_take] at hp
    split at hp
    · simp [World.cell?, hb] at hp ⊢
      exact hp
    · cases hp

theorem len19 (a : Option Addr) (n cap : Nat) (w : World) : Calls Try.prog 36 #[.slice a n cap] w fun e w' => e = .returned (.int .i64 (n : Int)) ∧ w' = w := by
  go_enter Try.func36, Try.ntmps36
  go_wp2_with fail
  go_ret
  exact ⟨rfl, rfl⟩

theorem HpSt.old (h : HpSt N B bb gm hm xs w) {w' : World} (o : Old w w') : HpSt N B bb gm hm xs w' := by
  obtain ⟨v, r, ow, hq⟩ := h.arr
  refine ⟨⟨v, r.mono o, World.ownsRow.kept ow (grown_old o none) ?_, hq⟩, fun i x hx => (h.each i x hx).mono o, h.own, h.apart, (o.block gm h.mlt).trans h.map, h.two, h.few, Nat.le_trans h.new o.size, Nat.lt_of_lt_of_le h.mlt o.size⟩
  cases v.ownBlock with
  | none => exact .inl rfl
  | some q => exact .inr (by simp)
theorem Fr.of_old {w' : World} (o : Old w w') (hN : N ≤ w.heap.size) : Fr N B w w' := ⟨o.os, o.tape, o.output, o.size, fun k hk _ => o.block k (by omega), fun _ _ h => h.old o⟩

set_option maxHeartbeats 2000000 in
theorem before19 (gx gy p q : Nat) (x y : Mk) (w : World) (rx : Row w gx 53 (momV (gx, x) p)) (ry : Row w gy 53 (momV (gy, y) q)) :
    Calls Try.prog 39 #[.pointer (some ⟨gx, 0, none⟩), .pointer (some ⟨gy, 0, none⟩)] w fun e w' => e = .returned (.bool (ltM x y)) ∧ Old w w' := by
  have a1 := rx.cell (i := 0) rfl
  have a2 := rx.cell (i := 1) rfl
  have b1 := ry.cell (i := 0) rfl
  have b2 := ry.cell (i := 1) rfl
  obtain ⟨xw, xt⟩ := x
  obtain ⟨yw, yt⟩ := y
  dsimp only at a1 a2 b1 b2 ⊢
  clear rx ry
  by_cases h3 : xt = yt
  · have d2 : (xt != yt) = false := by rw [bne_eq_false_iff_eq]; exact h3
    by_cases h4 : xw < yw
    · have e : ltM (xw, xt) (yw, yt) = true := by simp [ltM, h3, h4]
      have d3 : decide (xw < yw) = true := decide_eq_true h4
      rw [e]
      clear e h3 h4
      go_enter Try.func39, Try.ntmps39
      go_wp2_with fail
      go_quiet (fail)
      go_wp2_with fail
      go_quiet (fail)
      go_wp2
      go_ret
      exact ⟨by first | rfl | simp, (Old.of_drewN _ _).trans (Old.of_drewN _ _)⟩
    · have e : ltM (xw, xt) (yw, yt) = false := by simp [ltM, h3]; omega
      have d3 : decide (xw < yw) = false := decide_eq_false h4
      rw [e]
      clear e h3 h4
      go_enter Try.func39, Try.ntmps39
      go_wp2_with fail
      go_quiet (fail)
      go_wp2_with fail
      go_quiet (fail)
      go_wp2
      go_ret
      exact ⟨by first | rfl | simp, (Old.of_drewN _ _).trans (Old.of_drewN _ _)⟩
  · have d2 : (xt != yt) = true := by rw [bne_iff_ne]; exact h3
    by_cases h2 : xt < yt
    · have e : ltM (xw, xt) (yw, yt) = true := by simp [ltM, h2]
      have d1 : decide (xt < yt) = true := decide_eq_true h2
      rw [e]
      clear e h2 h3
      go_enter Try.func39, Try.ntmps39
      go_wp2_with fail
      go_quiet (fail)
      go_wp2_with fail
      go_quiet (fail)
      go_wp2
      go_ret
      exact ⟨by first | rfl | simp, (Old.of_drewN _ _).trans (Old.of_drewN _ _)⟩
    · have e : ltM (xw, xt) (yw, yt) = false := by simp [ltM, h2, h3]
      have d1 : decide (xt < yt) = false := decide_eq_false h2
      rw [e]
      clear e h2 h3
      go_enter Try.func39, Try.ntmps39
      go_wp2_with fail
      go_quiet (fail)
      go_wp2_with fail
      go_quiet (fail)
      go_wp2
      go_ret
      exact ⟨by first | rfl | simp, (Old.of_drewN _ _).trans (Old.of_drewN _ _)⟩

set_option maxHeartbeats 2000000 in
theorem less19 (h : HpSt N B bb gm hm xs w) (a : Option Addr) (cap i j : Nat) (hc : w.cell? ⟨bb, 0, none⟩ = some (.slice a xs.length cap)) (hi : i < xs.length) (hj : j < xs.length) :
    Calls Try.prog 37 #[.slice a xs.length cap, .int .i64 (i : Int), .int .i64 (j : Int)] w fun e w' => e = .returned (.bool (ltM (kf Prod.snd xs i) (kf Prod.snd xs j))) ∧ HpSt N B bb gm hm xs w' ∧ Fr N B w w' := by
  obtain ⟨g, rfl, p1, -, r1⟩ := h.ptr hc hi
  obtain ⟨g', e, p2, -, r2⟩ := h.ptr hc hj
  cases e
  have K1 : kf Prod.snd xs i = (xs.getD i default).2 := rfl
  have K2 : kf Prod.snd xs j = (xs.getD j default).2 := rfl
  rw [K1, K2]
  have C := hide (fun x : After w => before19 (xs.getD i default).1 (xs.getD j default).1 i j (xs.getD i default).2 (xs.getD j default).2 x.to (r1.mono x.old) (r2.mono x.old))
  have HH := hide (fun (w' : World) (o : Old w w') => (⟨h.old o, Fr.of_old o h.new⟩ : HpSt N B bb gm hm xs w' ∧ Fr N B w w'))
  have i0 : (0 : Int) ≤ i := by omega
  have j0 : (0 : Int) ≤ j := by omega
  have i1 : (i : Int) < xs.length := by omega
  have j1 : (j : Int) < xs.length := by omega
  have ne : Nonempty (After w) := ⟨⟨w, Old.refl _⟩⟩
  have q1 := fun x : After w => x.cell p1
  have q2 := fun x : After w => x.cell p2
  clear h hc K1 K2 r1 r2 p1 p2
  revert q1 q2 C
  generalize xs.getD i default = x
  generalize xs.getD j default = y
  obtain ⟨gx, xm⟩ := x
  obtain ⟨gy, ym⟩ := y
  dsimp only
  generalize ltM xm ym = lt
  intro C q1 q2
  generalize xs.length = n at *
  go_enter Try.func37, Try.ntmps37
  go_wp2_with fail
  refine wp_region_calm (by kernel_rfl) (by kernel_rfl) ?_
  repeat (go_big_quiet_step (exact calm_of (C.out _)))
  refine wpQuiet_nil ?_
  rintro _ ⟨⟨w3, o3⟩, rfl⟩
  have F := HH.out _ o3
  clear C HH q1 q2
  go_wp2
  go_ret
  exact ⟨rfl, F⟩
end
end Go.Proofs.Ytnmigdcedcmbkaa
