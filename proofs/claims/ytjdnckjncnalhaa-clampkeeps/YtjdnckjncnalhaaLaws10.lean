/-
  The walks of layer 10's statements, if the layer's calls are what they owe.
-/
import Derived.Test.YtjdnckjncnalhaaClampC
import Derived.Test.YtjdnckjncnalhaaCalm
import Derived.Test.YtjdnckjncnalhaaOpenPl
namespace Go.Proofs.Ytjdnckjncnalhaa
open Go.RowKit Pn
set_option linter.unusedVariables false

set_option maxHeartbeats 2000000 in
theorem walkK_ClampSound (K : ClampK) (v0 : Value) (w : World) (w0 : IsPlan w v0) :
    Calls Try.prog 3 #[v0] w fun e w' => e = .returned (.bool true) ∧ Old w w' := by
  obtain ⟨lo, hi, mo, a, n, cap, es, rfl, F⟩ := w0
  have B := hide (Bx.start cap F)
  unfold pv
  go_enter Try.func3, Try.ntmps3
  go_wp2_with fail
  revert B
  generalize w.alloc (.cells #[.int .i64 lo, .int .i64 hi, .int .i64 mo, .slice a n cap] 24) = wd
  intro B
  have C0 := hide (awake10 K)
  have C1 := hide (fun y : After wd => K.sound lo hi mo a n cap es y.to (B.out.fit.mono y.old))
  have C2 := hide (fun y : After wd => refSound10_any cap y.to (B.out.fit.mono y.old))
  unfold pv at C1 C2
  clear K F
  revert C1 C2
  generalize soundZ lo hi mo es = s
  intro C1 C2
  have ne : Nonempty (After wd) := ⟨⟨_, Old.refl _⟩⟩
  have a0 : ∀ y : After wd, y.to.cell? ⟨w.heap.size, 0, none⟩ = some (.int .i64 lo) := fun y => (B.out.mono y.old).c0
  have a1 : ∀ y : After wd, y.to.cell? ⟨w.heap.size, 1, none⟩ = some (.int .i64 hi) := fun y => (B.out.mono y.old).c1
  have a2 : ∀ y : After wd, y.to.cell? ⟨w.heap.size, 2, none⟩ = some (.int .i64 mo) := fun y => (B.out.mono y.old).c2
  have a3 : ∀ y : After wd, y.to.cell? ⟨w.heap.size, 3, none⟩ = some (.slice a n cap) := fun y => (B.out.mono y.old).c3
  refine wp_region_calm (by kernel_rfl) (by kernel_rfl) ?_
  repeat (go_big_quiet_step (first | with_reducible exact calm_of (C0.out _) | with_reducible exact calm_of (C1.out _) | with_reducible exact calm_of (C2.out _)))
  refine wpQuiet_nil ?_
  rintro _ ⟨⟨w3, o3⟩, rfl⟩
  go_wp2
  go_ret
  exact ⟨by simp, B.out.old.trans o3⟩

set_option maxHeartbeats 2000000 in
theorem walkK_ClampBits (K : ClampK) (v0 : Value) (w : World) (w0 : IsPlan w v0) :
    Calls Try.prog 4 #[v0] w fun e w' => e = .returned (.bool true) ∧ Old w w' := by
  obtain ⟨lo, hi, mo, a, n, cap, es, rfl, F⟩ := w0
  have B := hide (Bx.start cap F)
  have C0 := hide (awake10 K)
  have C1 := hide (fun (wr : World) (h : Fit wr lo hi mo a n es) => K.bits lo hi mo a n cap es wr h)
  have C2 := hide (fun (wr : World) (h : Fit wr lo hi mo a n es) => refSound10_any cap wr h)
  have C3 : Hid (soundZ lo hi mo es = 0 → ∀ wr, Calls Try.prog 11 #[pv lo hi mo a n cap] wr fun e w' => e = .returned (.int .i64 (bitsS (soundZ lo hi mo es) lo hi)) ∧ Old wr w') := fun h wr => by
    obtain ⟨h1, _, _⟩ := sound_of h
    unfold bad1 at h1
    rw [h]
    exact refBits10_any cap wr (by omega) (by omega) (by omega) (by omega)
  have HB : Hid ((soundZ lo hi mo es = 0 → 1 ≤ bitsS (soundZ lo hi mo es) lo hi ∧ bitsS (soundZ lo hi mo es) lo hi ≤ 40) ∧ (soundZ lo hi mo es ≠ 0 → bitsS (soundZ lo hi mo es) lo hi = 0)) := by
    refine ⟨fun h => ?_, fun h => if_neg h⟩
    obtain ⟨h1, _, _⟩ := sound_of h
    unfold bad1 at h1
    have := bits_40 (d := (hi - lo).toNat) (by omega)
    rw [h]
    show 1 ≤ ((bitsN (hi - lo).toNat : Nat) : Int) ∧ ((bitsN (hi - lo).toNat : Nat) : Int) ≤ 40
    omega
  unfold pv at C1 C2 C3 ⊢
  clear K F
  revert C1 C2 C3 HB
  generalize bitsS (soundZ lo hi mo es) lo hi = bz
  generalize soundZ lo hi mo es = s
  intro C1 C2 C3 HB
  go_enter Try.func4, Try.ntmps4
  go_wp2_with fail
  refine (C1.out _ B.out.fit).mono ?_
  rintro e w1 ⟨rfl, o1⟩
  have B1 := hide (B.out.mono o1)
  clear B o1
  have a0 := B1.out.c0
  have a1 := B1.out.c1
  have a2 := B1.out.c2
  have a3 := B1.out.c3
  go_wp2_with fail
  refine (C2.out _ B1.out.fit).mono ?_
  rintro e w2 ⟨rfl, o2⟩
  have B2 := hide (B1.out.mono o2)
  clear B1 o2 a0 a1 a2 a3
  by_cases hs : s = 0
  · subst hs
    obtain ⟨b1, b2⟩ := HB.out.1 rfl
    have C4 := hide (C3.out rfl)
    clear C3 HB
    go_wp2_with fail
    refine (C0.out _).mono ?_
    rintro e w3 ⟨rfl, o3⟩
    have B3 := hide (B2.out.mono o3)
    clear B2 o3
    have a0 := B3.out.c0
    have a1 := B3.out.c1
    have a2 := B3.out.c2
    have a3 := B3.out.c3
    go_wp2_with fail
    refine (C4.out _).mono ?_
    rintro e w4 ⟨rfl, o4⟩
    have O := B3.out.old.trans o4
    clear B3 o4 a0 a1 a2 a3
    go_wp2
    go_ret
    exact ⟨by simp, O⟩
  · have e0 := HB.out.2 hs
    subst e0
    have t1 : (s != 0) = true := by simpa using hs
    go_wp2_with fail
    refine (C0.out _).mono ?_
    rintro e w3 ⟨rfl, o3⟩
    have O := B2.out.old.trans o3
    clear B2 o3
    go_wp2
    go_ret
    exact ⟨by simp, O⟩

theorem clamp_facts {lo hi mo : Int} {es : List Int} (h : soundZ lo hi mo es = 0) (x : Int) : -1099511627776 ≤ lo ∧ hi ≤ 1099511627776 ∧ lo ≤ clampZ lo hi x ∧ clampZ lo hi x ≤ hi ∧ hi - lo < 1099511627776 := by
  obtain ⟨h1, _, _⟩ := sound_of h
  unfold bad1 at h1
  have := clampZ_in (lo := lo) (hi := hi) (x := x) (by omega)
  omega

set_option maxHeartbeats 2000000 in
theorem walkK_ClampKeeps (K : ClampK) (v0 v1 : Value) (w : World) (w0 : IsPlan w v0) (w1 : IsInt .i64 v1) :
    Calls Try.prog 5 #[v0, v1] w fun e w' => e = .returned (.bool true) ∧ Old w w' := by
  obtain ⟨lo, hi, mo, a, n, cap, es, rfl, F⟩ := w0
  obtain ⟨x, hx, rfl⟩ := isI64 w1
  have B := hide (Bx.start cap F)
  have C0 := hide (awake10 K)
  have C1 := hide (fun (wr : World) (h : Fit wr lo hi mo a n es) => K.clamp lo hi mo x a n cap es wr hx h)
  have C2 := hide (fun (wr : World) (h : Fit wr lo hi mo a n es) => K.place lo hi mo x a n cap es wr hx h)
  have C3 := hide (fun (wr : World) (h : Fit wr lo hi mo a n es) => refSound10_any cap wr h)
  have C4 := hide (fun wr : World => refClamp10_any (lo := lo) (hi := hi) (mo := mo) (a := a) (n := n) cap x wr)
  have HF := hide (fun h : soundZ lo hi mo es = 0 => clamp_facts h x)
  unfold clampS at C1
  unfold placeS at C2
  unfold pv at C1 C2 C3 C4 ⊢
  clear K F hx w1
  by_cases hs : soundZ lo hi mo es = 0
  · have H := HF.out hs
    simp only [hs, if_true] at C1 C2 C3
    obtain ⟨p, hp⟩ : ∃ p : Int, p = clampZ lo hi x - lo := ⟨_, rfl⟩
    have pw : IntKind.u64.wrap p = p := by show p % 18446744073709551616 = p; omega
    rw [← hp] at C2
    clear HF hs
    revert C1 C2 C4 H hp
    generalize clampZ lo hi x = c
    intro C4 H C1 C2 hp
    have ew : wrap64 (c - lo) = p := by unfold wrap64; omega
    clear H hp
    go_enter Try.func5, Try.ntmps5
    go_wp2_with fail
    refine (C1.out _ B.out.fit).mono ?_
    rintro e w1 ⟨rfl, o1⟩
    have B1 := hide (B.out.mono o1)
    clear B o1
    have a0 := B1.out.c0
    have a1 := B1.out.c1
    have a2 := B1.out.c2
    have a3 := B1.out.c3
    go_wp2_with fail
    refine (C2.out _ B1.out.fit).mono ?_
    rintro e w2 ⟨rfl, o2⟩
    have B2 := hide (B1.out.mono o2)
    clear B1 o2 a0 a1 a2 a3
    have a0 := B2.out.c0
    have a1 := B2.out.c1
    have a2 := B2.out.c2
    have a3 := B2.out.c3
    go_wp2_with fail
    refine (C3.out _ B2.out.fit).mono ?_
    rintro e w3 ⟨rfl, o3⟩
    have B3 := hide (B2.out.mono o3)
    clear B2 o3 a0 a1 a2 a3
    go_wp2_with fail
    refine (C0.out _).mono ?_
    rintro e w4 ⟨rfl, o4⟩
    have B4 := hide (B3.out.mono o4)
    clear B3 o4
    have a0 := B4.out.c0
    have a1 := B4.out.c1
    have a2 := B4.out.c2
    have a3 := B4.out.c3
    go_wp2_with fail
    refine (C4.out _).mono ?_
    rintro e w5 ⟨rfl, o5⟩
    have B5 := hide (B4.out.mono o5)
    clear B4 o5 a0 a1 a2 a3
    have a0 := B5.out.c0
    have O := B5.out.old
    go_wp2
    go_ret
    exact ⟨by simp, O⟩
  · simp only [hs, if_false] at C1 C2
    clear HF C4
    revert C1 C2 C3 hs
    generalize soundZ lo hi mo es = s
    intro C3 hs C1 C2
    have t1 : (s != 0) = true := by simpa using hs
    go_enter Try.func5, Try.ntmps5
    go_wp2_with fail
    refine (C1.out _ B.out.fit).mono ?_
    rintro e w1 ⟨rfl, o1⟩
    have B1 := hide (B.out.mono o1)
    clear B o1
    have a0 := B1.out.c0
    have a1 := B1.out.c1
    have a2 := B1.out.c2
    have a3 := B1.out.c3
    go_wp2_with fail
    refine (C2.out _ B1.out.fit).mono ?_
    rintro e w2 ⟨rfl, o2⟩
    have B2 := hide (B1.out.mono o2)
    clear B1 o2 a0 a1 a2 a3
    have a0 := B2.out.c0
    have a1 := B2.out.c1
    have a2 := B2.out.c2
    have a3 := B2.out.c3
    go_wp2_with fail
    refine (C3.out _ B2.out.fit).mono ?_
    rintro e w3 ⟨rfl, o3⟩
    have B3 := hide (B2.out.mono o3)
    clear B2 o3 a0 a1 a2 a3
    go_wp2_with fail
    refine (C0.out _).mono ?_
    rintro e w4 ⟨rfl, o4⟩
    have O := B3.out.old.trans o4
    clear B3 o4
    go_wp2
    go_ret
    exact ⟨by simp, O⟩

theorem once_facts {lo hi x y : Int} (h : lo ≤ hi) : clampZ lo hi (clampZ lo hi x) = clampZ lo hi x ∧ (¬ y < x → clampZ lo hi x ≤ clampZ lo hi y) ∧ (¬ x < lo → ¬ hi < x → clampZ lo hi x = x) := by
  unfold clampZ
  refine ⟨?_, fun h => ?_, fun h1 h2 => ?_⟩
  · split <;> (try split) <;> (try split) <;> omega
  · split <;> (try split) <;> (try split) <;> (try split) <;> omega
  · rw [if_neg h1, if_neg h2]

set_option maxHeartbeats 4000000 in
theorem walkK_ClampOnce (K : ClampK) (v0 v1 v2 : Value) (w : World) (w0 : IsPlan w v0) (w1 : IsInt .i64 v1) (w2 : IsInt .i64 v2) :
    Calls Try.prog 6 #[v0, v1, v2] w fun e w' => e = .returned (.bool true) ∧ Old w w' := by
  obtain ⟨lo, hi, mo, a, n, cap, es, rfl, F⟩ := w0
  obtain ⟨x, hx, rfl⟩ := isI64 w1
  obtain ⟨y, hy, rfl⟩ := isI64 w2
  have B := hide (Bx.start cap F)
  have C0 := hide (awake10 K)
  have C1 := hide (fun (wr : World) (h : Fit wr lo hi mo a n es) => K.clamp lo hi mo x a n cap es wr hx h)
  have C2 := hide (fun (wr : World) (h : Fit wr lo hi mo a n es) => K.clamp lo hi mo y a n cap es wr hy h)
  have HF := hide (fun h : soundZ lo hi mo es = 0 => clamp_facts h x)
  unfold clampS at C1 C2
  by_cases hs : soundZ lo hi mo es = 0
  · have H := HF.out hs
    have C3 := hide (fun (wr : World) (h : Fit wr lo hi mo a n es) => K.clamp lo hi mo (clampZ lo hi x) a n cap es wr (by unfold B64; omega) h)
    obtain ⟨q1, q2, q3⟩ := once_facts (lo := lo) (hi := hi) (x := x) (y := y) (by omega)
    unfold clampS at C3
    simp only [hs, if_true, q1] at C1 C2 C3
    unfold pv at C1 C2 C3 ⊢
    clear K F HF hs q1 hx hy w1 w2
    revert C1 C2 C3 H q2 q3
    generalize clampZ lo hi x = c
    generalize clampZ lo hi y = d
    intro H q2 q3 C1 C2 C3
    have g1 : decide (lo ≤ c) = true := by simp; omega
    have g2 : decide (c ≤ hi) = true := by simp; omega
    have T1 : (decide (y < x) = true) ∨ (decide (y < x) = false ∧ decide (c ≤ d) = true) := by
      by_cases h : y < x
      · left; simpa using h
      · right; exact ⟨by simpa using h, by simpa using q2 h⟩
    have T2 : decide (x < lo) = true ∨ (decide (x < lo) = false ∧ decide (hi < x) = true) ∨ (decide (x < lo) = false ∧ decide (hi < x) = false ∧ x = c) := by
      by_cases h : x < lo
      · left; simpa using h
      · right
        by_cases h' : hi < x
        · left; exact ⟨by simpa using h, by simpa using h'⟩
        · right; exact ⟨by simpa using h, by simpa using h', (q3 h h').symm⟩
    have HT := hide (And.intro T1 T2)
    clear H q2 q3 T1 T2
    go_enter Try.func6, Try.ntmps6
    go_wp2_with fail
    refine (C1.out _ B.out.fit).mono ?_
    rintro e w1 ⟨rfl, o1⟩
    have B1 := hide (B.out.mono o1)
    clear B o1
    have a0 := B1.out.c0
    have a1 := B1.out.c1
    have a2 := B1.out.c2
    have a3 := B1.out.c3
    go_wp2_with fail
    refine (C2.out _ B1.out.fit).mono ?_
    rintro e w2 ⟨rfl, o2⟩
    have B2 := hide (B1.out.mono o2)
    clear B1 o2 a0 a1 a2 a3
    go_wp2_with fail
    refine (C0.out _).mono ?_
    rintro e w3 ⟨rfl, o3⟩
    have B3 := hide (B2.out.mono o3)
    clear B2 o3
    have a0 := B3.out.c0
    have a1 := B3.out.c1
    have a2 := B3.out.c2
    have a3 := B3.out.c3
    go_wp2_with fail
    refine (C3.out _ B3.out.fit).mono ?_
    rintro e w4 ⟨rfl, o4⟩
    have B4 := hide (B3.out.mono o4)
    clear B3 o4 a0 a1 a2 a3
    have a0 := B4.out.c0
    have a1 := B4.out.c1
    have O := B4.out.old
    obtain ⟨T1, T2⟩ := HT.out
    clear HT C0 C1 C2 C3 B4
    rcases T1 with t1 | ⟨t1, t2⟩ <;> rcases T2 with t3 | ⟨t3, t4⟩ | ⟨t3, t4, rfl⟩
    all_goals
      go_wp2
      go_ret
      exact ⟨by simp, O⟩
  · simp only [hs, if_false] at C1 C2
    unfold pv at C1 C2 ⊢
    clear K F HF hx hy w1 w2
    revert C1 C2 hs
    generalize soundZ lo hi mo es = s
    intro hs C1 C2
    have t1 : (s != 0) = true := by simpa using hs
    go_enter Try.func6, Try.ntmps6
    go_wp2_with fail
    refine (C1.out _ B.out.fit).mono ?_
    rintro e w1 ⟨rfl, o1⟩
    have B1 := hide (B.out.mono o1)
    clear B o1
    have a0 := B1.out.c0
    have a1 := B1.out.c1
    have a2 := B1.out.c2
    have a3 := B1.out.c3
    go_wp2_with fail
    refine (C2.out _ B1.out.fit).mono ?_
    rintro e w2 ⟨rfl, o2⟩
    have B2 := hide (B1.out.mono o2)
    clear B1 o2 a0 a1 a2 a3
    go_wp2_with fail
    refine (C0.out _).mono ?_
    rintro e w3 ⟨rfl, o3⟩
    have B3 := hide (B2.out.mono o3)
    clear B2 o3
    go_wp2_with fail
    refine (C0.out _).mono ?_
    rintro e w4 ⟨rfl, o4⟩
    have O := B3.out.old.trans o4
    clear B3 o4
    go_wp2
    go_ret
    exact ⟨rfl, O⟩
end Go.Proofs.Ytjdnckjncnalhaa
