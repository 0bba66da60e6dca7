/-
  The document's own Same of stats (offertoryref09): what it answers. What stats are, as values.
-/
import Derived.Test.YthaaajepolahfaaRefInt
import Derived.Test.YthaaajepolahfaaRefBin
import Derived.Test.YthaaajepolahfaaElem
namespace Go.Proofs.Ythaaajepolahfaa
open Go.RowKit Pn
set_option linter.unusedVariables false

namespace Pn
/-- Stats without their bins. -/
structure SV where
  cnt : Int
  sh : Nat
  sl : Nat
  qh : Nat
  ql : Nat
  neg : Bool
  deriving DecidableEq
/-- .. out of a count, a sum and squares. -/
def SV.of (c : Int) (z : Int) (q : Nat) : SV := ⟨c, Wd.hi z.natAbs, Wd.lo z.natAbs, Wd.hi q, Wd.lo q, decide (z < 0)⟩
def SV.cells (s : SV) (a : Option Addr) (n cap : Nat) : List Value := [.slice a n cap, .int .i64 s.cnt, .int .u64 (s.sh : Nat), .int .u64 (s.sl : Nat), .int .u64 (s.qh : Nat), .int .u64 (s.ql : Nat), .bool s.neg]
/-- Stats. -/
def sv (s : SV) (a : Option Addr) (n cap : Nat) : Value := .agg #[.slice a n cap, .int .i64 s.cnt, .int .u64 (s.sh : Nat), .int .u64 (s.sl : Nat), .int .u64 (s.qh : Nat), .int .u64 (s.ql : Nat), .bool s.neg]
def SV.zero : SV := ⟨0, 0, 0, 0, 0, false⟩
end Pn
theorem infoSt {a b c d e f g : Value} : (Try.prog.info? 29).map (·.size) = some [a, b, c, d, e, f, g].length := by kernel_rfl

/-- Two stats in boxes of the call's own, with their bins. -/
structure Bs (w : World) (s t : SV) (a b : Option Addr) (n ca m cb : Nat) (xs ys : List Int) (wr : World) : Prop where
  ra : Row wr w.heap.size 29 (s.cells a n ca)
  rb : Row wr (w.heap.size + 1) 29 (t.cells b m cb)
  rx : Rd wr a (ints xs)
  ry : Rd wr b (ints ys)
  old : Old w wr
theorem Bs.start {w : World} {s t : SV} {a b : Option Addr} {n m : Nat} {xs ys : List Int} (ca cb : Nat) (rx : Rd w a (ints xs)) (ry : Rd w b (ints ys)) : Bs w s t a b n ca m cb xs ys ((w.alloc (.cells (s.cells a n ca).toArray 29)).alloc (.cells (t.cells b m cb).toArray 29)) := by
  have o : Old w ((w.alloc (.cells (s.cells a n ca).toArray 29)).alloc (.cells (t.cells b m cb).toArray 29)) := (Old.of_alloc _ _).alloc _
  refine ⟨(Row.new _ _ _).mono (Old.of_alloc _ _), ?_, rx.mono o, ry.mono o, o⟩
  have := Row.new (w.alloc (.cells (s.cells a n ca).toArray 29)) 29 (t.cells b m cb)
  rw [World.size_alloc] at this
  exact this
theorem Bs.mono {w : World} {s t : SV} {a b : Option Addr} {n ca m cb : Nat} {xs ys : List Int} {wr w' : World} (h : Bs w s t a b n ca m cb xs ys wr) (o : Old wr w') : Bs w s t a b n ca m cb xs ys w' := ⟨h.ra.mono o, h.rb.mono o, h.rx.mono o, h.ry.mono o, h.old.trans o⟩

set_option maxHeartbeats 2000000 in
theorem refSame13_any {s t : SV} {a b : Option Addr} {n m : Nat} {xs ys : List Int} (ca cb : Nat) (w : World) (hn : n ≤ 9223372036854775807) (lx : xs.length = n) (ly : ys.length = m) (rx : Rd w a (ints xs)) (ry : Rd w b (ints ys)) :
    Calls Try.prog 11 #[sv s a n ca, sv t b m cb] w fun e w' => e = .returned (.bool (decide (xs = ys ∧ s = t))) ∧ Old w w' := by
  have B0 := hide (Bs.start (s := s) (t := t) (n := n) (m := m) ca cb rx ry)
  have LX := hide lx
  have LY := hide ly
  have HN := hide hn
  unfold sv
  clear rx ry lx ly hn
  by_cases hnm : n = m
  · subst hnm
    have t0 : ((n : Int) != n) = false := by simp
    have t0' : (n != n) = false := by simp
    unfold SV.cells at B0
    go_enter Try.func11, Try.ntmps11
    go_wp2_with fail
    clear t0 t0'
    go_loopw [5] (fun vi wr => ∃ k : Nat, k ≤ n ∧ vi = .int .i64 (k : Int) ∧ Hid (xs.take k = ys.take k) ∧ Hid (Bs w s t a b n ca n cb xs ys wr)) (fun vi _ => n - (intOf vi).toNat)
    case atStart => exact ⟨0, Nat.zero_le _, rfl, rfl, B0⟩
    case round =>
      clear B0
      obtain ⟨k, hk, rfl, HT, R⟩ := hrel
      have a0 : wr.cell? ⟨w.heap.size, 0, none⟩ = some (.slice a n ca) := R.out.ra.cell (i := 0) rfl
      have b0 : wr.cell? ⟨w.heap.size + 1, 0, none⟩ = some (.slice b n cb) := R.out.rb.cell (i := 0) rfl
      by_cases hl : k < n
      · have t3 : decide (k < n) = true := by simpa using hl
        have t3' : decide ((k : Int) < (n : Int)) = true := by simp; omega
        obtain ⟨b1, o1, rfl, cx⟩ := rd_int R.out.rx (i := k) (by rw [LX.out]; exact hl)
        obtain ⟨b2, o2, rfl, cy⟩ := rd_int R.out.ry (i := k) (by rw [LY.out]; exact hl)
        have NX := hide (fun e => take_stepI HT.out (by rw [LX.out]; exact hl) (by rw [LY.out]; exact hl) e)
        have ND : Hid (xs.getD k 0 ≠ ys.getD k 0 → decide (xs = ys ∧ s = t) = false) := fun h => decide_eq_false fun ⟨e, _⟩ => h (by rw [e])
        have q0 : (0 : Int) ≤ k := by omega
        have q1 : (k : Int) < n := by omega
        revert cx cy NX ND
        generalize xs.getD k 0 = x
        generalize ys.getD k 0 = y
        intro cx cy NX ND
        by_cases hxy : x = y
        · subst hxy
          have t4 : (x != x) = false := by simp
          have NY : Hid (xs.take (k + 1) = ys.take (k + 1)) := NX.out rfl
          have iw : wrap64 ((k : Int) + 1) = ((k + 1 : Nat) : Int) := by have := HN.out; unfold wrap64; omega
          clear NX ND
          go_wp2_with fail
          go_quiet (fail)
          go_wp2
          rw [iw]
          exact ⟨⟨k + 1, by omega, rfl, NY, R.out.mono (Old.of_drewN _ _)⟩, by simp [intOf]; omega⟩
        · have t4 : (x != y) = true := by simpa using hxy
          have E := hide (ND.out hxy)
          go_wp2_with fail
          go_quiet (fail)
          go_wp2
          go_ret
          exact ⟨by rw [E.out]; rfl, R.out.old.drewN _⟩
      · obtain rfl : k = n := by omega
        have t3 : decide (k < k) = false := by simp
        have t3' : decide ((k : Int) < (k : Int)) = false := by simp
        have EX : Hid (xs = ys) := by
          have := HT.out
          rw [List.take_of_length_le (by rw [LX.out]; exact Nat.le_refl _), List.take_of_length_le (by rw [LY.out]; exact Nat.le_refl _)] at this
          exact this
        have a1 : wr.cell? ⟨w.heap.size, 1, none⟩ = some (.int .i64 s.cnt) := R.out.ra.cell (i := 1) rfl
        have a2 : wr.cell? ⟨w.heap.size, 2, none⟩ = some (.int .u64 (s.sh : Nat)) := R.out.ra.cell (i := 2) rfl
        have a3 : wr.cell? ⟨w.heap.size, 3, none⟩ = some (.int .u64 (s.sl : Nat)) := R.out.ra.cell (i := 3) rfl
        have a4 : wr.cell? ⟨w.heap.size, 4, none⟩ = some (.int .u64 (s.qh : Nat)) := R.out.ra.cell (i := 4) rfl
        have a5 : wr.cell? ⟨w.heap.size, 5, none⟩ = some (.int .u64 (s.ql : Nat)) := R.out.ra.cell (i := 5) rfl
        have a6 : wr.cell? ⟨w.heap.size, 6, none⟩ = some (.bool s.neg) := R.out.ra.cell (i := 6) rfl
        have b1 : wr.cell? ⟨w.heap.size + 1, 1, none⟩ = some (.int .i64 t.cnt) := R.out.rb.cell (i := 1) rfl
        have b2 : wr.cell? ⟨w.heap.size + 1, 2, none⟩ = some (.int .u64 (t.sh : Nat)) := R.out.rb.cell (i := 2) rfl
        have b3 : wr.cell? ⟨w.heap.size + 1, 3, none⟩ = some (.int .u64 (t.sl : Nat)) := R.out.rb.cell (i := 3) rfl
        have b4 : wr.cell? ⟨w.heap.size + 1, 4, none⟩ = some (.int .u64 (t.qh : Nat)) := R.out.rb.cell (i := 4) rfl
        have b5 : wr.cell? ⟨w.heap.size + 1, 5, none⟩ = some (.int .u64 (t.ql : Nat)) := R.out.rb.cell (i := 5) rfl
        have b6 : wr.cell? ⟨w.heap.size + 1, 6, none⟩ = some (.bool t.neg) := R.out.rb.cell (i := 6) rfl
        have OO := hide R.out.old
        have DD : Hid (decide (xs = ys ∧ s = t) = decide (s = t)) := by rw [Hid]; congr 1; simp [EX.out]
        clear R HT LX LY EX
        obtain ⟨c1, h1, l1, p1, r1, n1⟩ := s
        obtain ⟨c2, h2, l2, p2, r2, n2⟩ := t
        have e1 : Hid (decide ((SV.mk c1 h1 l1 p1 r1 n1) = SV.mk c2 h2 l2 p2 r2 n2) = (decide (c1 = c2) && decide (h1 = h2) && decide (l1 = l2) && decide (p1 = p2) && decide (r1 = r2) && decide (n1 = n2))) := by
          rw [Hid, Bool.eq_iff_iff]
          simp [and_assoc]
        simp only at *
        go_wp2
        all_goals
          go_ret
          refine ⟨?_, OO.out⟩
          rw [DD.out, e1.out]
          refine congrArg (fun b => Ending.returned (Value.bool b)) ?_
          rw [Bool.eq_iff_iff]
          simp only [Bool.and_eq_true, decide_eq_true_eq, beq_iff_eq]
          constructor
          · intro hq
            first
              | exact absurd hq (by decide)
              | exact ⟨⟨⟨⟨⟨by omega, by omega⟩, by omega⟩, by omega⟩, by omega⟩, hq⟩
          · rintro ⟨⟨⟨⟨⟨k1, k2⟩, k3⟩, k4⟩, k5⟩, k6⟩
            first
              | exact k6
              | (exfalso; omega)
  · have t0 : (n != m) = true := by simpa using hnm
    have t0' : ((n : Int) != (m : Int)) = true := by simp; omega
    have E : Hid (decide (xs = ys ∧ s = t) = false) := decide_eq_false fun ⟨e, _⟩ => hnm (by rw [← LX.out, ← LY.out, e])
    rw [E.out]
    go_enter Try.func11, Try.ntmps11
    go_wp2
    go_ret
    exact ⟨rfl, B0.out.old⟩
end Go.Proofs.Ythaaajepolahfaa
