/-
  Layer 10 as it landed: what clamp's Sound, Bits, Clamp, Place answer, for any plan and any sample.
-/
import Derived.Test.YthaaajepolahfaaClampO
import Derived.Test.YthaaajepolahfaaCalm
namespace Go.Proofs.Ythaaajepolahfaa
open Go.RowKit Pn
set_option linter.unusedVariables false

section
variable {lo hi mo : Int} {a : Option Addr} {n : Nat} (cap : Nat) (w : World)
theorem clampM_any (x : Int) (h : lo ≤ hi) :
    Calls Try.prog 39 #[pv lo hi mo a n cap, .int .i64 x] w fun e w' => e = .returned (.int .i64 (clampZ lo hi x)) ∧ Old w w' := by
  have O := Old.of_alloc w (.cells #[.int .i64 lo, .int .i64 hi, .int .i64 mo, .slice a n cap] 68)
  unfold pv
  have E : Hid (min (max x lo) hi = clampZ lo hi x) := by
    show min (max x lo) hi = clampZ lo hi x
    unfold clampZ
    split <;> (try split) <;> omega
  clear h
  go_enter Try.func39, Try.ntmps39
  go_wp2
  all_goals (go_ret; refine ⟨?_, O⟩; rw [← E.out])
  all_goals first | rfl | (refine congrArg (fun z : Int => Ending.returned (.int .i64 z)) ?_; omega)

theorem width_any (h1 : lo ≤ hi) (h2 : -1099511627776 ≤ lo) (h3 : hi ≤ 1099511627776) :
    Calls Try.prog 64 #[pv lo hi mo a n cap] w fun e w' => e = .returned (.int .u64 (hi - lo)) ∧ Old w w' := by
  have O := Old.of_alloc w (.cells #[.int .i64 lo, .int .i64 hi, .int .i64 mo, .slice a n cap] 68)
  unfold pv
  have E : Hid (IntKind.u64.wrap (IntKind.u64.wrap hi - IntKind.u64.wrap lo) = hi - lo) := by
    show (hi % 18446744073709551616 - lo % 18446744073709551616) % 18446744073709551616 = hi - lo
    omega
  clear h1 h2 h3
  go_enter Try.func64, Try.ntmps64
  go_wp2
  go_ret
  exact ⟨by rw [← E.out]; rfl, O⟩

theorem inRange_no (h : bad1 lo hi) :
    Calls Try.prog 54 #[pv lo hi mo a n cap] w fun e w' => e = .returned (.bool false) ∧ Old w w' := by
  have O := Old.of_alloc w (.cells #[.int .i64 lo, .int .i64 hi, .int .i64 mo, .slice a n cap] 68)
  have C := hide (width_any (mo := mo) (a := a) (n := n) (lo := lo) (hi := hi) cap)
  unfold pv at C ⊢
  have H := hide h
  clear h
  by_cases h1 : -1099511627776 ≤ lo
  · by_cases h2 : lo ≤ hi
    · by_cases h3 : hi ≤ 1099511627776
      · have h4 : 1099511627776 ≤ hi - lo := by
          rcases H.out with h | h | h | h <;> omega
        have D := hide (fun w => C.out w h2 h1 h3)
        have t : decide (hi - lo < 1099511627776) = false := by simp; omega
        clear h4
        go_enter Try.func54, Try.ntmps54
        go_wp2_with fail
        refine (D.out _).mono ?_
        rintro e w1 ⟨rfl, o1⟩
        go_wp2
        go_ret
        exact ⟨rfl, O.trans o1⟩
      · go_enter Try.func54, Try.ntmps54
        go_wp2
        go_ret
        exact ⟨rfl, O⟩
    · go_enter Try.func54, Try.ntmps54
      go_wp2
      go_ret
      exact ⟨rfl, O⟩
  · go_enter Try.func54, Try.ntmps54
    go_wp2
    go_ret
    exact ⟨rfl, O⟩

theorem inRange_yes (h : ¬ bad1 lo hi) :
    Calls Try.prog 54 #[pv lo hi mo a n cap] w fun e w' => e = .returned (.bool true) ∧ Old w w' := by
  have O := Old.of_alloc w (.cells #[.int .i64 lo, .int .i64 hi, .int .i64 mo, .slice a n cap] 68)
  have h1 : -1099511627776 ≤ lo := by unfold bad1 at h; omega
  have h2 : lo ≤ hi := by unfold bad1 at h; omega
  have h3 : hi ≤ 1099511627776 := by unfold bad1 at h; omega
  have t : decide (hi - lo < 1099511627776) = true := by unfold bad1 at h; simp; omega
  clear h
  have D := hide (fun w => width_any (mo := mo) (a := a) (n := n) (lo := lo) (hi := hi) cap w h2 h1 h3)
  unfold pv at D ⊢
  go_enter Try.func54, Try.ntmps54
  go_wp2_with fail
  refine (D.out _).mono ?_
  rintro e w1 ⟨rfl, o1⟩
  go_wp2
  go_ret
  exact ⟨rfl, O.trans o1⟩

theorem capped_no (h : bad2 mo) :
    Calls Try.prog 55 #[pv lo hi mo a n cap] w fun e w' => e = .returned (.bool false) ∧ Old w w' := by
  have O := Old.of_alloc w (.cells #[.int .i64 lo, .int .i64 hi, .int .i64 mo, .slice a n cap] 68)
  unfold pv
  have H := hide h
  clear h
  by_cases h1 : 1 ≤ mo
  · have h2 : ¬ mo ≤ 65536 := by rcases H.out with h | h <;> omega
    go_enter Try.func55, Try.ntmps55
    go_wp2
    go_ret
    exact ⟨rfl, O⟩
  · go_enter Try.func55, Try.ntmps55
    go_wp2
    go_ret
    exact ⟨rfl, O⟩

theorem capped_yes (h : ¬ bad2 mo) :
    Calls Try.prog 55 #[pv lo hi mo a n cap] w fun e w' => e = .returned (.bool true) ∧ Old w w' := by
  have O := Old.of_alloc w (.cells #[.int .i64 lo, .int .i64 hi, .int .i64 mo, .slice a n cap] 68)
  unfold pv
  have h1 : 1 ≤ mo := by unfold bad2 at h; omega
  have h2 : mo ≤ 65536 := by unfold bad2 at h; omega
  clear h
  go_enter Try.func55, Try.ntmps55
  go_wp2
  go_ret
  exact ⟨rfl, O⟩
end

/-- A plan in a box of the call's own, as what is asked about its own fields. -/
structure By (w : World) (g : Nat) (lo hi mo : Int) (a : Option Addr) (n cap : Nat) (es : List Int) (wr : World) : Prop where
  row : Row wr g 68 [.int .i64 lo, .int .i64 hi, .int .i64 mo, .slice a n cap]
  fit : Fit wr lo hi mo a n es
  old : Old w wr
theorem By.start {w : World} {lo hi mo : Int} {a : Option Addr} {n : Nat} {es : List Int} (cap : Nat) (F : Fit w lo hi mo a n es) : By w w.heap.size lo hi mo a n cap es (w.alloc (.cells #[.int .i64 lo, .int .i64 hi, .int .i64 mo, .slice a n cap] 68)) :=
  ⟨Row.new _ _ _, F.mono (Old.of_alloc _ _), Old.of_alloc _ _⟩
theorem By.mono {w : World} {g : Nat} {lo hi mo : Int} {a : Option Addr} {n cap : Nat} {es : List Int} {wr w' : World} (h : By w g lo hi mo a n cap es wr) (o : Old wr w') : By w g lo hi mo a n cap es w' := ⟨h.row.mono o, h.fit.mono o, h.old.trans o⟩

section
variable {w : World} {g : Nat} {lo hi mo : Int} {a : Option Addr} {n cap : Nat} {es : List Int} {wr : World}
theorem By.c0 (h : By w g lo hi mo a n cap es wr) : wr.cell? ⟨g, 0, none⟩ = some (.int .i64 lo) := h.row.cell (i := 0) rfl
theorem By.c1 (h : By w g lo hi mo a n cap es wr) : wr.cell? ⟨g, 1, none⟩ = some (.int .i64 hi) := h.row.cell (i := 1) rfl
theorem By.c2 (h : By w g lo hi mo a n cap es wr) : wr.cell? ⟨g, 2, none⟩ = some (.int .i64 mo) := h.row.cell (i := 2) rfl
theorem By.c3 (h : By w g lo hi mo a n cap es wr) : wr.cell? ⟨g, 3, none⟩ = some (.slice a n cap) := h.row.cell (i := 3) rfl
end

set_option maxHeartbeats 1000000 in
theorem rising_any {lo hi mo : Int} {a : Option Addr} {n : Nat} {es : List Int} (cap : Nat) (w : World) (F : Fit w lo hi mo a n es) :
    Calls Try.prog 56 #[pv lo hi mo a n cap] w fun e w' => e = .returned (.bool (!decide (bad3 es))) ∧ Old w w' := by
  have B0 := hide (By.start cap F)
  unfold pv
  have fl := F.len
  clear F
  by_cases h7 : 64 < n
  · have E : Hid (decide (bad3 es) = true) := decide_eq_true (Or.inl (by omega))
    rw [E.out]
    have t7 : decide ((64 : Int) < n) = true := by simp; omega
    go_enter Try.func56, Try.ntmps56
    go_wp2
    go_ret
    exact ⟨rfl, B0.out.old⟩
  have t7 : decide ((64 : Int) < n) = false := by simp; omega
  go_enter Try.func56, Try.ntmps56
  go_wp2_with fail
  have HN := hide (And.intro h7 fl)
  clear fl t7
  go_loopw [3] (fun vi wr => ∃ k : Nat, vi = .int .i64 ((k : Int) + 1) ∧ k ≤ 64 ∧ Hid (risTo es (k + 1)) ∧ Hid (By w w.heap.size lo hi mo a n cap es wr)) (fun vi _ => (65 - intOf vi).toNat)
  case atStart => exact ⟨0, by simp, by omega, risTo_one es, B0⟩
  case round =>
    clear B0
    obtain ⟨k, rfl, hk, RT, R⟩ := hrel
    have c3 := R.out.c3
    by_cases hl : k + 1 < n
    · have t1 : decide ((k : Int) + 1 < n) = true := by simp; omega
      obtain ⟨b, off, rfl, ca⟩ := rd_int R.out.fit.rd (i := k) (by rw [HN.out.2]; omega)
      obtain ⟨b', off', e', cb⟩ := rd_int R.out.fit.rd (i := k + 1) (by rw [HN.out.2]; omega)
      obtain ⟨rfl, rfl⟩ : b = b' ∧ off = off' := by simpa using e'
      have q0 : (0 : Int) ≤ k := by omega
      have q1 : (k : Int) < n := by omega
      have q2 : (0 : Int) ≤ (k : Int) + 1 := by omega
      have q3 : (k : Int) + 1 < n := by omega
      have RX := hide (show es.getD k 0 < es.getD (k + 1) 0 → risTo es (k + 1 + 1) from fun h => risTo_next RT.out (by omega) (by simpa using h))
      have RN : Hid (¬ es.getD k 0 < es.getD (k + 1) 0 → decide (bad3 es) = true) := fun h => decide_eq_true (Or.inr (risTo_not (i := k + 1) (by omega) (by rw [HN.out.2]; omega) (by simpa using h)))
      have HK := hide hl
      clear hl e' RT
      revert ca cb RX RN
      generalize es.getD k 0 = x
      generalize es.getD (k + 1) 0 = y
      intro ca cb RX RN
      by_cases hxy : x < y
      · have t2 : decide (y ≤ x) = false := by simp; omega
        go_wp2_with fail
        go_quiet (fail)
        go_wp2
        go_roundw
        case rel => exact ⟨k + 1, by simp, by have := HK.out; have := HN.out.1; omega, RX.out hxy, R.out.mono (Old.of_drewN _ _)⟩
        case measure => simp [intOf]; omega
      · have t2 : decide (y ≤ x) = true := by simp; omega
        have E := hide (RN.out hxy)
        go_wp2_with fail
        go_quiet (fail)
        go_wp2
        go_ret
        exact ⟨by rw [E.out]; rfl, R.out.old.drewN _⟩
    · have t1 : decide ((k : Int) + 1 < n) = false := by simp; omega
      have E : Hid (decide (bad3 es) = false) := decide_eq_false (by
        rintro (h | h)
        · have := HN.out.1; have := HN.out.2; omega
        · exact h fun j hj => RT.out j (by rw [HN.out.2] at hj; omega))
      go_wp2
      go_ret
      exact ⟨by rw [E.out]; rfl, R.out.old⟩

set_option maxHeartbeats 1000000 in
theorem soundM_any {lo hi mo : Int} {a : Option Addr} {n : Nat} {es : List Int} (cap : Nat) (w : World) (F : Fit w lo hi mo a n es) :
    Calls Try.prog 38 #[pv lo hi mo a n cap] w fun e w' => e = .returned (.int .i64 (soundZ lo hi mo es)) ∧ Old w w' := by
  have B0 := hide (By.start cap F)
  have X1 := hide (fun w h => inRange_no (lo := lo) (hi := hi) (mo := mo) (a := a) (n := n) cap w h)
  have X2 := hide (fun w h => inRange_yes (lo := lo) (hi := hi) (mo := mo) (a := a) (n := n) cap w h)
  have X3 := hide (fun w h => capped_no (lo := lo) (hi := hi) (mo := mo) (a := a) (n := n) cap w h)
  have X4 := hide (fun w h => capped_yes (lo := lo) (hi := hi) (mo := mo) (a := a) (n := n) cap w h)
  have X5 := hide (fun w F => rising_any (lo := lo) (hi := hi) (mo := mo) (a := a) (n := n) (es := es) cap w F)
  unfold pv at *
  clear F
  by_cases h1 : bad1 lo hi
  · rw [sound_4 h1]
    have H1 := hide h1
    clear h1 X2 X3 X4 X5
    go_enter Try.func38, Try.ntmps38
    go_wp2_with fail
    refine (X1.out _ H1.out).mono ?_
    rintro e w1 ⟨rfl, o1⟩
    go_wp2
    go_ret
    exact ⟨rfl, B0.out.old.trans o1⟩
  by_cases h2 : bad2 mo
  · rw [sound_9 h1 h2]
    have H1 := hide h1
    have H2 := hide h2
    clear h1 h2 X1 X4 X5
    go_enter Try.func38, Try.ntmps38
    go_wp2_with fail
    refine (X2.out _ H1.out).mono ?_
    rintro e w1 ⟨rfl, o1⟩
    have B1 := hide (B0.out.mono o1)
    clear B0 o1
    have c0 := B1.out.c0
    have c1 := B1.out.c1
    have c2 := B1.out.c2
    have c3 := B1.out.c3
    go_wp2_with fail
    refine (X3.out _ H2.out).mono ?_
    rintro e w2 ⟨rfl, o2⟩
    have O := B1.out.old.trans o2
    clear B1 o2 c0 c1 c2 c3
    go_wp2
    go_ret
    exact ⟨rfl, O⟩
  · obtain ⟨t, ht⟩ : ∃ t : Bool, t = decide (bad3 es) := ⟨_, rfl⟩
    have S : Hid (soundZ lo hi mo es = if t then 10 else 0) := by
      subst ht
      by_cases h3 : bad3 es
      · rw [Hid, sound_10 h1 h2 h3, decide_eq_true h3]; rfl
      · rw [Hid, sound_0 h1 h2 h3, decide_eq_false h3]; rfl
    rw [S.out]
    rw [← ht] at X5
    have H1 := hide h1
    have H2 := hide h2
    clear h1 h2 X1 X3 S ht
    go_enter Try.func38, Try.ntmps38
    go_wp2_with fail
    refine (X2.out _ H1.out).mono ?_
    rintro e w1 ⟨rfl, o1⟩
    have B1 := hide (B0.out.mono o1)
    clear B0 o1
    have c0 := B1.out.c0
    have c1 := B1.out.c1
    have c2 := B1.out.c2
    have c3 := B1.out.c3
    go_wp2_with fail
    refine (X4.out _ H2.out).mono ?_
    rintro e w2 ⟨rfl, o2⟩
    have B2 := hide (B1.out.mono o2)
    clear B1 o2 c0 c1 c2 c3
    have c0 := B2.out.c0
    have c1 := B2.out.c1
    have c2 := B2.out.c2
    have c3 := B2.out.c3
    go_wp2_with fail
    refine (X5.out _ B2.out.fit).mono ?_
    rintro e w3 ⟨rfl, o3⟩
    have O := B2.out.old.trans o3
    clear B2 o3 c0 c1 c2 c3
    cases t
    · go_wp2
      go_ret
      exact ⟨rfl, O⟩
    · go_wp2
      go_ret
      exact ⟨rfl, O⟩
end Go.Proofs.Ythaaajepolahfaa
