/-
  What layer 13's calls owe, told by values alone (the walks of its statements ask no more); the fixed fact of its statements.
-/
import Derived.Test.YthaaajepolahfaaRefDecode
namespace Go.Proofs.Ythaaajepolahfaa
open Go.RowKit Pn
set_option linter.unusedVariables false

/-- How many bits a place of the plan has. -/
def bP (lo hi : Int) : Nat := bitsN (hi - lo).toNat
/-- What is wrong with a vector: the plan, its length, its head. -/
def decE (s : Int) (es : List Int) (b m : Nat) (vs : List Nat) : Int := if s ≠ 0 then s else if m ≠ lenN es b then 1 else if headV es.length vs then 11 else 0

def OfC13 : Prop := ∀ (lo hi mo : Int) (a : Option Addr) (n cap : Nat) (es : List Int) (b : Option Addr) (k ck : Nat) (xs : List Int) (w : World), Fit w lo hi mo a n es → Sam w b k xs → k ≤ 2147483647 →
  Calls Try.prog 8 #[pv lo hi mo a n cap, .slice b k ck] w fun e w' => StR w w' e (soundZ lo hi mo es) (SV.of k (sumZ lo hi xs) (zN (sqZ lo hi xs))) (cntL lo hi es xs)

def DecodeC13 : Prop := ∀ (lo hi mo : Int) (a : Option Addr) (n cap : Nat) (es : List Int) (b : Option Addr) (m cm : Nat) (vs : List Nat) (w : World), Fit w lo hi mo a n es → Vc w b m vs → m ≤ cm →
  Calls Try.prog 13 #[pv lo hi mo a n cap, .slice b m cm] w fun e w' => StR w w' e (decE (soundZ lo hi mo es) es (bP lo hi) m vs) (SV.of (cnV n vs) (dsum lo n (bP lo hi) vs) (zN (dsq lo n (bP lo hi) vs))) (binsV n vs)

def SameC13 : Prop := ∀ (s t : SV) (a b : Option Addr) (n m ca cb : Nat) (xs ys : List Int) (w : World), n ≤ 9223372036854775807 → m ≤ 9223372036854775807 → xs.length = n → ys.length = m → Rd w a (ints xs) → Rd w b (ints ys) →
  Calls Try.prog 17 #[sv s a n ca, sv t b m cb] w fun e w' => e = .returned (.bool (decide (xs = ys ∧ s = t))) ∧ Old w w'

structure StatsK : Prop where
  of : OfC13
  decode : DecodeC13
  same : SameC13

/-- The fixed plan: its edge in block g, itself in block g + 1. -/
structure Ak13 (w : World) (wr : World) : Prop where
  ed : Row wr w.heap.size 3 [.int .i64 0]
  pl : Row wr (w.heap.size + 1) 24 [.int .i64 (-3), .int .i64 4, .int .i64 9, .slice (some ⟨w.heap.size, 0, none⟩) 1 1]
  old : Old w wr
theorem Ak13.mono {w : World} {wr w' : World} (h : Ak13 w wr) (o : Old wr w') : Ak13 w w' := ⟨h.ed.mono o, h.pl.mono o, h.old.trans o⟩
theorem Ak13.fit {w : World} {wr : World} (h : Ak13 w wr) : Fit wr (-3) 4 9 (some ⟨w.heap.size, 0, none⟩) 1 [0] :=
  ⟨by unfold B64; omega, by unfold B64; omega, by unfold B64; omega, rfl, by omega, by intro e he; simp at he; subst he; unfold B64; omega, fun i v hv => ⟨_, _, rfl, by rw [Nat.zero_add]; exact h.ed.cell hv⟩⟩
theorem Ak13.start (w : World) : Ak13 w ((w.alloc (.cells #[.int .i64 0] 3)).alloc (.cells #[.int .i64 (-3), .int .i64 4, .int .i64 9, .slice (some ⟨w.heap.size, 0, none⟩) 1 1] 24)) := by
  refine ⟨(Row.new _ _ _).mono (Old.of_alloc _ _), ?_, (Old.of_alloc _ _).alloc _⟩
  have := Row.new (w.alloc (.cells #[.int .i64 0] 3)) 24 [.int .i64 (-3), .int .i64 4, .int .i64 9, .slice (some ⟨w.heap.size, 0, none⟩) 1 1]
  rw [World.size_alloc] at this
  exact this
namespace Aw13
theorem s0 : soundZ (-3) 4 9 [0] = 0 := by decide +kernel
theorem k1 : SV.of (3 : Nat) (sumZ (-3) 4 [-3, -2, 9]) (zN (sqZ (-3) 4 [-3, -2, 9])) = ⟨3, 0, 1, 0, 29, true⟩ := by decide +kernel
theorem k2 : cntL (-3) 4 [0] [-3, -2, 9] = [2, 1] := by decide +kernel
theorem k3 : decE 0 [0] (bP (-3) 4) 12 [2, 1, 3, 2, 1, 1, 2, 0, 0, 1, 1, 1] = 0 := by decide +kernel
theorem k4 : binsV 1 [2, 1, 3, 2, 1, 1, 2, 0, 0, 1, 1, 1] = [2, 1] := by decide +kernel
theorem k5 : cnV 1 [2, 1, 3, 2, 1, 1, 2, 0, 0, 1, 1, 1] = 3 := by decide +kernel
section
variable {w wr : World}
theorem c1 (K : StatsK) (h : Ak13 w wr) {g : Nat} {t : TypeId} (R : Row wr g t (ints [-3, -2, 9])) : Calls Try.prog 8 #[.agg #[.int .i64 (-3), .int .i64 4, .int .i64 9, .slice (some ⟨w.heap.size, 0, none⟩) 1 1], .slice (some ⟨g, 0, none⟩) 3 3] wr fun e w' => ∃ g' cap, e = .returned (.tuple #[.agg #[.slice (some ⟨g', 0, none⟩) 2 cap, .int .i64 3, .int .u64 0, .int .u64 1, .int .u64 0, .int .u64 29, .bool true], .int .i64 0]) ∧ Old wr w' ∧ Rd w' (some ⟨g', 0, none⟩) (ints [2, 1]) := by
  have := K.of (-3) 4 9 (some ⟨w.heap.size, 0, none⟩) 1 1 [0] (some ⟨g, 0, none⟩) 3 3 [-3, -2, 9] wr h.fit (sam_row R (by simp) (by intro e he; simp at he; rcases he with rfl | rfl | rfl <;> (unfold B64; omega))) (by omega)
  rw [s0, k1, k2] at this
  refine this.mono ?_
  rintro e w' ⟨v, rfl, o, ok, _⟩
  obtain ⟨g', cap, rest, rfl, _, RB⟩ := ok rfl
  refine ⟨g', cap, rfl, o, fun i x hx => ⟨g', 0, rfl, ?_⟩⟩
  rw [Nat.zero_add]
  refine RB.cell ?_
  rw [List.getElem?_append_left (List.getElem?_eq_some_iff.1 hx).1]
  exact hx
theorem c2 (K : StatsK) (h : Ak13 w wr) {g : Nat} {t : TypeId} (R : Row wr g t (nums .u32 [2, 1, 3, 2, 1, 1, 2, 0, 0, 1, 1, 1])) : Calls Try.prog 13 #[.agg #[.int .i64 (-3), .int .i64 4, .int .i64 9, .slice (some ⟨w.heap.size, 0, none⟩) 1 1], .slice (some ⟨g, 0, none⟩) 12 12] wr fun e w' => ∃ (s : SV) (g' cap : Nat), e = .returned (.tuple #[.agg #[.slice (some ⟨g', 0, none⟩) 2 cap, .int .i64 3, .int .u64 (s.sh : Nat), .int .u64 (s.sl : Nat), .int .u64 (s.qh : Nat), .int .u64 (s.ql : Nat), .bool s.neg], .int .i64 0]) ∧ Old wr w' := by
  have := K.decode (-3) 4 9 (some ⟨w.heap.size, 0, none⟩) 1 1 [0] (some ⟨g, 0, none⟩) 12 12 [2, 1, 3, 2, 1, 1, 2, 0, 0, 1, 1, 1] wr h.fit ⟨rfl, by omega, by decide, fun i v hv => ⟨_, _, rfl, by rw [Nat.zero_add]; exact R.cell hv⟩⟩ (by omega)
  rw [s0, k3, k4, k5] at this
  refine this.mono ?_
  rintro e w' ⟨v, rfl, o, ok, _⟩
  obtain ⟨g', cap, rest, rfl, _, RB⟩ := ok rfl
  exact ⟨_, g', cap, rfl, o⟩
theorem c3 (K : StatsK) {g cap : Nat} (R : Rd wr (some ⟨g, 0, none⟩) (ints [2, 1])) : Calls Try.prog 17 #[.agg #[.slice (some ⟨g, 0, none⟩) 2 cap, .int .i64 3, .int .u64 0, .int .u64 1, .int .u64 0, .int .u64 29, .bool true], .agg #[.slice (some ⟨g, 0, none⟩) 2 cap, .int .i64 3, .int .u64 0, .int .u64 1, .int .u64 0, .int .u64 29, .bool true]] wr fun e w' => e = .returned (.bool true) ∧ Old wr w' := by
  have := K.same ⟨3, 0, 1, 0, 29, true⟩ ⟨3, 0, 1, 0, 29, true⟩ (some ⟨g, 0, none⟩) (some ⟨g, 0, none⟩) 2 2 cap cap [2, 1] [2, 1] wr (by omega) (by omega) rfl rfl R R
  rw [decide_eq_true (And.intro rfl rfl)] at this
  exact this
end
end Aw13

set_option maxHeartbeats 4000000 in
theorem awake13 (K : StatsK) (w : World) : Calls Try.prog 10 #[] w fun e w' => e = .returned (.bool true) ∧ Old w w' := by
  have KK := hide K
  clear K
  have A0 := hide (Ak13.start w)
  go_enter Try.func10, Try.ntmps10
  have A1 := hide (A0.out.mono (Old.of_alloc _ (.cells #[.int .i64 (-3), .int .i64 (-2), .int .i64 9] 3)))
  have Z1 : Hid (Row (((w.alloc (.cells #[.int .i64 0] 3)).alloc (.cells #[.int .i64 (-3), .int .i64 4, .int .i64 9, .slice (some ⟨w.heap.size, 0, none⟩) 1 1] 24)).alloc (.cells (ints [-3, -2, 9]).toArray 3)) (w.heap.size + 1 + 1) 3 (ints [-3, -2, 9])) := row_new _ _ (by simp only [World.size_alloc])
  go_wp2_with fail
  refine (Aw13.c1 KK.out A1.out Z1.out).mono ?_
  rintro e w1 ⟨gb, cb, rfl, o1, rb⟩
  have A2 := hide (A1.out.mono o1)
  clear A0 A1 Z1 o1
  have S1 := hide (Row.new w1 29 [.slice (some ⟨gb, 0, none⟩) 2 cb, .int .i64 3, .int .u64 0, .int .u64 1, .int .u64 0, .int .u64 29, .bool true])
  have A3 := hide (A2.out.mono (Old.of_alloc _ (.cells #[.slice (some ⟨gb, 0, none⟩) 2 cb, .int .i64 3, .int .u64 0, .int .u64 1, .int .u64 0, .int .u64 29, .bool true] 29)))
  have B3 := hide (rb.mono (Old.of_alloc _ (.cells #[.slice (some ⟨gb, 0, none⟩) 2 cb, .int .i64 3, .int .u64 0, .int .u64 1, .int .u64 0, .int .u64 29, .bool true] 29)))
  have p0 := A3.out.pl.cell (i := 0) rfl
  have p1 := A3.out.pl.cell (i := 1) rfl
  have p2 := A3.out.pl.cell (i := 2) rfl
  have p3 := A3.out.pl.cell (i := 3) rfl
  clear rb
  have VL : Hid (Row ((w1.alloc (.cells #[.slice (some ⟨gb, 0, none⟩) 2 cb, .int .i64 3, .int .u64 0, .int .u64 1, .int .u64 0, .int .u64 29, .bool true] 29)).alloc (.cells (nums .u32 [2, 1, 3, 2, 1, 1, 2, 0, 0, 1, 1, 1]).toArray 43)) (w1.heap.size + 1) 43 (nums .u32 [2, 1, 3, 2, 1, 1, 2, 0, 0, 1, 1, 1])) := row_new _ _ (by simp only [World.size_alloc])
  have A4 := hide (A3.out.mono (Old.of_alloc _ (.cells (nums .u32 [2, 1, 3, 2, 1, 1, 2, 0, 0, 1, 1, 1]).toArray 43)))
  have B4 := hide (B3.out.mono (Old.of_alloc _ (.cells (nums .u32 [2, 1, 3, 2, 1, 1, 2, 0, 0, 1, 1, 1]).toArray 43)))
  have S4 := hide (S1.out.mono (Old.of_alloc _ (.cells (nums .u32 [2, 1, 3, 2, 1, 1, 2, 0, 0, 1, 1, 1]).toArray 43)))
  go_wp2_with fail
  refine (Aw13.c2 KK.out A4.out VL.out).mono ?_
  rintro e w2 ⟨s, gt, ct, rfl, o2⟩
  have L0 : Hid (Row w2 w1.heap.size 29 [.slice (some ⟨gb, 0, none⟩) 2 cb, .int .i64 3, .int .u64 0, .int .u64 1, .int .u64 0, .int .u64 29, .bool true] ∧ Rd w2 (some ⟨gb, 0, none⟩) (ints [2, 1]) ∧ Old w w2) := ⟨S4.out.mono o2, B4.out.mono o2, (A4.out.mono o2).old⟩
  clear A2 A3 A4 S1 S4 B3 B4 VL p0 p1 p2 p3 o2
  revert L0
  generalize w1.heap.size = gs
  intro L0
  obtain ⟨sc, s1, s2, s3, s4, s5⟩ := s
  have o5 := Old.of_alloc w2 (.cells #[.slice (some ⟨gt, 0, none⟩) 2 ct, .int .i64 3, .int .u64 (s1 : Nat), .int .u64 (s2 : Nat), .int .u64 (s3 : Nat), .int .u64 (s4 : Nat), .bool s5] 29)
  have R5 := L0.out.1.mono o5
  have B5 := hide (L0.out.2.1.mono o5)
  have O5 := hide (L0.out.2.2.trans o5)
  have c0 := R5.cell (i := 0) rfl
  have c1 := R5.cell (i := 1) rfl
  have c2 := R5.cell (i := 2) rfl
  have c3 := R5.cell (i := 3) rfl
  have c4 := R5.cell (i := 4) rfl
  have c5 := R5.cell (i := 5) rfl
  have c6 := R5.cell (i := 6) rfl
  have cb0 := rd_at B5.out (i := 0) (by simp)
  rw [show ([2, 1] : List Int).getD 0 0 = 2 from rfl] at cb0
  clear R5 o5 L0
  have C3 := hide (Aw13.c3 (cap := cb) KK.out B5.out)
  go_wp2_with fail
  refine C3.out.mono ?_
  rintro e w3 ⟨rfl, o3⟩
  go_wp2
  go_ret
  exact ⟨rfl, O5.out.trans o3⟩
end Go.Proofs.Ythaaajepolahfaa
