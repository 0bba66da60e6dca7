/-
  The walks of layer 13's statements, if the layer's calls are what they owe: StatsSame, StatsDecodes.
-/
import Derived.Test.YthaaajepolahfaaStatsC
import Derived.Test.YthaaajepolahfaaCalm
import Derived.Test.YthaaajepolahfaaOpenPl
namespace Go.Proofs.Ythaaajepolahfaa
open Go.RowKit Pn
set_option linter.unusedVariables false

/-- Stats that came in. -/
def IsStats (w : World) (v : Value) : Prop := ∃ (s : SV) (a : Option Addr) (n cap : Nat) (xs : List Int), v = sv s a n cap ∧ n ≤ cap ∧ n ≤ 9223372036854775807 ∧ xs.length = n ∧ Rd w a (ints xs)
/-- A vector that came in. -/
theorem vc_of {w : World} {b : Option Addr} {m : Nat} {vs : List Nat} (h1 : vs.length = m) (h2 : m ≤ 9223372036854775807) (h3 : ∀ x ∈ vs, x < 4294967296) (h4 : Rd w b (nums .u32 vs)) : Vc w b m vs := ⟨h1, h2, h3, h4⟩

set_option maxHeartbeats 2000000 in
theorem walkK_StatsSame (K : StatsK) (v0 v1 : Value) (w : World) (w0 : IsStats w v0) (w1 : IsStats w v1) :
    Calls Try.prog 6 #[v0, v1] w fun e w' => e = .returned (.bool true) ∧ Old w w' := by
  obtain ⟨s, a, n, ca, xs, rfl, _, hn, lx, rx⟩ := w0
  obtain ⟨t, b, m, cb, ys, rfl, _, hm, ly, ry⟩ := w1
  have B := hide (Bs.start (s := s) (t := t) (n := n) (m := m) ca cb rx ry)
  obtain ⟨c1, h1, l1, p1, r1, n1⟩ := s
  obtain ⟨c2, h2, l2, p2, r2, n2⟩ := t
  unfold sv
  unfold SV.cells at B
  simp only at B ⊢
  go_enter Try.func6, Try.ntmps6
  go_wp2_with fail
  revert B
  generalize ((w.alloc (.cells [Value.slice a n ca, .int .i64 c1, .int .u64 (h1 : Nat), .int .u64 (l1 : Nat), .int .u64 (p1 : Nat), .int .u64 (r1 : Nat), .bool n1].toArray 29)).alloc (.cells [Value.slice b m cb, .int .i64 c2, .int .u64 (h2 : Nat), .int .u64 (l2 : Nat), .int .u64 (p2 : Nat), .int .u64 (r2 : Nat), .bool n2].toArray 29)) = wd
  intro B
  have C0 := hide (awake13 K)
  have C1 := hide (fun y : After wd => K.same ⟨c1, h1, l1, p1, r1, n1⟩ ⟨c2, h2, l2, p2, r2, n2⟩ a b n m ca cb xs ys y.to hn hm lx ly (B.out.mono y.old).rx (B.out.mono y.old).ry)
  have C2 := hide (fun y : After wd => refSame13_any (s := ⟨c1, h1, l1, p1, r1, n1⟩) (t := ⟨c2, h2, l2, p2, r2, n2⟩) ca cb y.to hn lx ly (B.out.mono y.old).rx (B.out.mono y.old).ry)
  unfold sv at C1 C2
  clear K rx ry lx ly hn hm
  revert C1 C2
  generalize decide (xs = ys ∧ (SV.mk c1 h1 l1 p1 r1 n1) = SV.mk c2 h2 l2 p2 r2 n2) = bl
  intro C1 C2
  simp only at C1 C2
  have ne : Nonempty (After wd) := ⟨⟨_, Old.refl _⟩⟩
  have a0 : ∀ y : After wd, y.to.cell? ⟨w.heap.size, 0, none⟩ = some (.slice a n ca) := fun y => (B.out.mono y.old).ra.cell (i := 0) rfl
  have a1 : ∀ y : After wd, y.to.cell? ⟨w.heap.size, 1, none⟩ = some (.int .i64 c1) := fun y => (B.out.mono y.old).ra.cell (i := 1) rfl
  have a2 : ∀ y : After wd, y.to.cell? ⟨w.heap.size, 2, none⟩ = some (.int .u64 (h1 : Nat)) := fun y => (B.out.mono y.old).ra.cell (i := 2) rfl
  have a3 : ∀ y : After wd, y.to.cell? ⟨w.heap.size, 3, none⟩ = some (.int .u64 (l1 : Nat)) := fun y => (B.out.mono y.old).ra.cell (i := 3) rfl
  have a4 : ∀ y : After wd, y.to.cell? ⟨w.heap.size, 4, none⟩ = some (.int .u64 (p1 : Nat)) := fun y => (B.out.mono y.old).ra.cell (i := 4) rfl
  have a5 : ∀ y : After wd, y.to.cell? ⟨w.heap.size, 5, none⟩ = some (.int .u64 (r1 : Nat)) := fun y => (B.out.mono y.old).ra.cell (i := 5) rfl
  have a6 : ∀ y : After wd, y.to.cell? ⟨w.heap.size, 6, none⟩ = some (.bool n1) := fun y => (B.out.mono y.old).ra.cell (i := 6) rfl
  have b0 : ∀ y : After wd, y.to.cell? ⟨w.heap.size + 1, 0, none⟩ = some (.slice b m cb) := fun y => (B.out.mono y.old).rb.cell (i := 0) rfl
  have b1 : ∀ y : After wd, y.to.cell? ⟨w.heap.size + 1, 1, none⟩ = some (.int .i64 c2) := fun y => (B.out.mono y.old).rb.cell (i := 1) rfl
  have b2 : ∀ y : After wd, y.to.cell? ⟨w.heap.size + 1, 2, none⟩ = some (.int .u64 (h2 : Nat)) := fun y => (B.out.mono y.old).rb.cell (i := 2) rfl
  have b3 : ∀ y : After wd, y.to.cell? ⟨w.heap.size + 1, 3, none⟩ = some (.int .u64 (l2 : Nat)) := fun y => (B.out.mono y.old).rb.cell (i := 3) rfl
  have b4 : ∀ y : After wd, y.to.cell? ⟨w.heap.size + 1, 4, none⟩ = some (.int .u64 (p2 : Nat)) := fun y => (B.out.mono y.old).rb.cell (i := 4) rfl
  have b5 : ∀ y : After wd, y.to.cell? ⟨w.heap.size + 1, 5, none⟩ = some (.int .u64 (r2 : Nat)) := fun y => (B.out.mono y.old).rb.cell (i := 5) rfl
  have b6 : ∀ y : After wd, y.to.cell? ⟨w.heap.size + 1, 6, none⟩ = some (.bool n2) := fun y => (B.out.mono y.old).rb.cell (i := 6) rfl
  have te : (bl == bl) = true := by simp
  refine wp_region_calm (by kernel_rfl) (by kernel_rfl) ?_
  repeat (go_big_quiet_step (first | with_reducible exact calm_of (C0.out _) | with_reducible exact calm_of (C1.out _) | with_reducible exact calm_of (C2.out _)))
  refine wpQuiet_nil ?_
  rintro _ ⟨⟨w3, o3⟩, rfl⟩
  go_wp2
  go_ret
  exact ⟨by simp, B.out.old.trans o3⟩

/-- A plan, and stats in a box of the call's own. -/
structure Ds (w : World) (gs : Nat) (pl oc : List Value) (wr : World) : Prop where
  pl : Row wr w.heap.size 24 pl
  st : Row wr gs 29 oc
  old : Old w wr
theorem Ds.mono {w : World} {gs : Nat} {pl oc : List Value} {wr w' : World} (h : Ds w gs pl oc wr) (o : Old wr w') : Ds w gs pl oc w' := ⟨h.pl.mono o, h.st.mono o, h.old.trans o⟩
theorem ref_same_zero (a : Option Addr) (cap : Nat) (w : World) : Calls Try.prog 11 #[.agg #[.slice a 0 cap, .int .i64 0, .int .u64 0, .int .u64 0, .int .u64 0, .int .u64 0, .bool false], .agg #[.slice none 0 0, .int .i64 0, .int .u64 0, .int .u64 0, .int .u64 0, .int .u64 0, .bool false]] w fun e w' => e = .returned (.bool true) ∧ Old w w' := by
  have := refSame13_any (s := SV.zero) (t := SV.zero) (a := a) (b := none) (n := 0) (m := 0) (xs := []) (ys := []) cap 0 w (by omega) rfl rfl (Rd.nil _) (Rd.nil _)
  rw [decide_eq_true (And.intro rfl rfl)] at this
  exact this
theorem ref_same_self {s : SV} {a b : Option Addr} {n : Nat} {xs : List Int} (ca cb : Nat) (w : World) (hn : n ≤ 9223372036854775807) (lx : xs.length = n) (rx : Rd w a (ints xs)) (ry : Rd w b (ints xs)) : Calls Try.prog 11 #[sv s a n ca, sv s b n cb] w fun e w' => e = .returned (.bool true) ∧ Old w w' := by
  have := refSame13_any (s := s) (t := s) (xs := xs) (ys := xs) ca cb w hn lx lx rx ry
  rw [decide_eq_true (And.intro rfl rfl)] at this
  exact this
theorem rd_own {w : World} {g : Nat} {t : TypeId} {cs rest : List Value} (R : Row w g t (cs ++ rest)) : Rd w (some ⟨g, 0, none⟩) cs := fun i x hx => ⟨g, 0, rfl, by
  rw [Nat.zero_add]
  refine R.cell ?_
  rw [List.getElem?_append_left (List.getElem?_eq_some_iff.1 hx).1]
  exact hx⟩
end Go.Proofs.Ythaaajepolahfaa
