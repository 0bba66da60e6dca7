/-
  Layer 10 as it landed: what clamp's Sound, Bits, Clamp, Place answer, for any plan and any sample (the exported calls).
-/
import Derived.Test.YthaaajepolahfaaClampD
namespace Go.Proofs.Ythaaajepolahfaa
open Go.RowKit Pn
set_option linter.unusedVariables false

theorem sound10 : SoundC10 := by
  intro lo hi mo a n cap es w F
  have B0 := hide (Bx.start cap F)
  have X := hide (fun w F => soundM_any (lo := lo) (hi := hi) (mo := mo) (a := a) (n := n) (es := es) cap w F)
  unfold pv at *
  clear F
  go_enter Try.func21, Try.ntmps21
  go_wp2_with fail
  refine (X.out _ B0.out.fit).mono ?_
  rintro e w1 ⟨rfl, o1⟩
  go_wp2
  go_ret
  exact ⟨rfl, B0.out.old.trans o1⟩

/-- Two boxes of the call's own: a plan, and the same as what is asked about its own fields. -/
structure Bz (w : World) (lo hi mo : Int) (a : Option Addr) (n cap : Nat) (es : List Int) (wr : World) : Prop where
  row : Row wr (w.heap.size + 1) 68 [.int .i64 lo, .int .i64 hi, .int .i64 mo, .slice a n cap]
  fit : Fit wr lo hi mo a n es
  old : Old w wr
theorem Bz.mono {w : World} {lo hi mo : Int} {a : Option Addr} {n cap : Nat} {es : List Int} {wr w' : World} (h : Bz w lo hi mo a n cap es wr) (o : Old wr w') : Bz w lo hi mo a n cap es w' := ⟨h.row.mono o, h.fit.mono o, h.old.trans o⟩

theorem Bz.start {w : World} {lo hi mo : Int} {a : Option Addr} {n : Nat} {es : List Int} (cap : Nat) (F : Fit w lo hi mo a n es) : Bz w lo hi mo a n cap es ((w.alloc (.cells #[.int .i64 lo, .int .i64 hi, .int .i64 mo, .slice a n cap] 24)).alloc (.cells #[.int .i64 lo, .int .i64 hi, .int .i64 mo, .slice a n cap] 68)) := by
  refine ⟨?_, F.mono ((Old.of_alloc _ _).alloc _), (Old.of_alloc _ _).alloc _⟩
  have := Row.new (w.alloc (.cells #[.int .i64 lo, .int .i64 hi, .int .i64 mo, .slice a n cap] 24)) 68 [.int .i64 lo, .int .i64 hi, .int .i64 mo, .slice a n cap]
  rw [World.size_alloc] at this
  exact this
section
variable {w : World} {lo hi mo : Int} {a : Option Addr} {n cap : Nat} {es : List Int} {wr : World}
theorem Bz.c0 (h : Bz w lo hi mo a n cap es wr) : wr.cell? ⟨w.heap.size + 1, 0, none⟩ = some (.int .i64 lo) := h.row.cell (i := 0) rfl
theorem Bz.c1 (h : Bz w lo hi mo a n cap es wr) : wr.cell? ⟨w.heap.size + 1, 1, none⟩ = some (.int .i64 hi) := h.row.cell (i := 1) rfl
theorem Bz.c2 (h : Bz w lo hi mo a n cap es wr) : wr.cell? ⟨w.heap.size + 1, 2, none⟩ = some (.int .i64 mo) := h.row.cell (i := 2) rfl
theorem Bz.c3 (h : Bz w lo hi mo a n cap es wr) : wr.cell? ⟨w.heap.size + 1, 3, none⟩ = some (.slice a n cap) := h.row.cell (i := 3) rfl
end
theorem bad1_no {lo hi mo : Int} {es : List Int} (h : soundZ lo hi mo es = 0) : -1099511627776 ≤ lo ∧ lo ≤ hi ∧ hi ≤ 1099511627776 ∧ hi - lo < 1099511627776 := by
  have h1 := (sound_of h).1
  unfold bad1 at h1
  omega

set_option maxHeartbeats 1000000 in
theorem clamp10 : ClampC10 := by
  intro lo hi mo x a n cap es w hx F
  have B0 := hide (Bz.start cap F)
  have X := hide (fun w F => soundM_any (lo := lo) (hi := hi) (mo := mo) (a := a) (n := n) (es := es) cap w F)
  have Y := hide (fun w h => clampM_any (lo := lo) (hi := hi) (mo := mo) (a := a) (n := n) cap w x h)
  have NB := hide (bad1_no (lo := lo) (hi := hi) (mo := mo) (es := es))
  unfold pv at *
  clear F hx
  revert X NB
  generalize soundZ lo hi mo es = s
  intro X NB
  go_enter Try.func22, Try.ntmps22
  go_wp2_with fail
  refine (X.out _ B0.out.fit).mono ?_
  rintro e w1 ⟨rfl, o1⟩
  have B1 := hide (B0.out.mono o1)
  clear B0 o1 X
  by_cases hs : s = 0
  · subst hs
    have hl := hide (NB.out rfl).2.1
    have c0 := B1.out.c0
    have c1 := B1.out.c1
    have c2 := B1.out.c2
    have c3 := B1.out.c3
    go_wp2_with fail
    refine (Y.out _ hl.out).mono ?_
    rintro e w2 ⟨rfl, o2⟩
    have O := B1.out.old.trans o2
    clear B1 o2 c0 c1 c2 c3
    go_wp2
    go_ret2
    exact ⟨rfl, O⟩
  · have E : clampS s lo hi x = 0 := by unfold clampS; rw [if_neg hs]
    have E := hide E
    have t : (s != 0) = true := by simpa using hs
    have O := B1.out.old
    clear B1 hs NB Y
    go_wp2
    go_ret2
    exact ⟨by rw [E.out]; rfl, O⟩



end Go.Proofs.Ythaaajepolahfaa
