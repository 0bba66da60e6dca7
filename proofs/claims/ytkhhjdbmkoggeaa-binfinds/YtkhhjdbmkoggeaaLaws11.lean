/-
  The walks of layer 11's statements BinFinds, BinRises, if the layer's calls are what they owe.
-/
import Derived.Test.YtkhhjdbmkoggeaaBinC
import Derived.Test.YtkhhjdbmkoggeaaOpenPl
namespace Go.Proofs.Ytkhhjdbmkoggeaa
open Go.RowKit Pn
set_option linter.unusedVariables false

set_option maxHeartbeats 2000000 in
theorem walkK_BinFinds (K : BinK) (v0 v1 : Value) (w : World) (w0 : IsPlan w v0) (w1 : IsInt .i64 v1) :
    Calls Try.prog 3 #[v0, v1] w fun e w' => e = .returned (.bool true) ∧ Old w w' := by
  obtain ⟨lo, hi, mo, a, n, cap, es, rfl, F⟩ := w0
  obtain ⟨x, hx, rfl⟩ := isI64 w1
  have B := hide (Bx.start cap F)
  have C0 := hide (awake11 K)
  have C1 := hide (fun (wr : World) (h : Fit wr lo hi mo a n es) => K.find lo hi mo x a n cap es wr hx h)
  have C2 := hide (fun (wr : World) (h : Fit wr lo hi mo a n es) => refSound10_any cap wr h)
  have C3 := hide (fun (wr : World) (h : Fit wr lo hi mo a n es) => refBin11_any cap x wr h)
  unfold binS at C1
  unfold pv at C1 C2 C3 ⊢
  clear K F hx w1
  by_cases hs : soundZ lo hi mo es = 0
  · simp only [hs, if_true] at C1 C2
    clear hs
    revert C1 C3
    generalize ((binX lo hi es x : Nat) : Int) = bx
    intro C3 C1
    go_enter Try.func3, Try.ntmps3
    go_wp2_with fail
    refine (C1.out _ B.out.fit).mono ?_
    rintro e w1 ⟨rfl, o1⟩
    have B1 := hide (B.out.mono o1)
    clear B o1
    have a0 := B1.out.c0
    have a1 := B1.out.c1
    have a2 := B1.out.c2
    have a3 := B1.out.c3
    go_wp2_with fail
    refine (C2.out _ B1.out.fit).mono ?_
    rintro e w2 ⟨rfl, o2⟩
    have B2 := hide (B1.out.mono o2)
    clear B1 o2 a0 a1 a2 a3
    go_wp2_with fail
    refine (C0.out _).mono ?_
    rintro e w3 ⟨rfl, o3⟩
    have B3 := hide (B2.out.mono o3)
    clear B2 o3
    have a0 := B3.out.c0
    have a1 := B3.out.c1
    have a2 := B3.out.c2
    have a3 := B3.out.c3
    go_wp2_with fail
    refine (C3.out _ B3.out.fit).mono ?_
    rintro e w4 ⟨rfl, o4⟩
    have O := B3.out.old.trans o4
    clear B3 o4 a0 a1 a2 a3
    go_wp2
    go_ret
    exact ⟨by simp, O⟩
  · simp only [hs, if_false] at C1
    revert C1 C2 hs
    generalize soundZ lo hi mo es = s
    intro C2 hs C1
    have t1 : (s != 0) = true := by simpa using hs
    go_enter Try.func3, Try.ntmps3
    go_wp2_with fail
    refine (C1.out _ B.out.fit).mono ?_
    rintro e w1 ⟨rfl, o1⟩
    have B1 := hide (B.out.mono o1)
    clear B o1
    have a0 := B1.out.c0
    have a1 := B1.out.c1
    have a2 := B1.out.c2
    have a3 := B1.out.c3
    go_wp2_with fail
    refine (C2.out _ B1.out.fit).mono ?_
    rintro e w2 ⟨rfl, o2⟩
    have B2 := hide (B1.out.mono o2)
    clear B1 o2 a0 a1 a2 a3
    go_wp2_with fail
    refine (C0.out _).mono ?_
    rintro e w3 ⟨rfl, o3⟩
    have O := B2.out.old.trans o3
    clear B2 o3
    go_wp2
    go_ret
    exact ⟨by simp, O⟩

theorem clampZ_mono {lo hi x y : Int} (h : lo ≤ hi) (hxy : x ≤ y) : clampZ lo hi x ≤ clampZ lo hi y := by
  unfold clampZ
  split <;> (try split) <;> (try split) <;> (try split) <;> omega
theorem clampZ_id {lo hi x : Int} (h1 : ¬ x < lo) (h2 : ¬ hi < x) : clampZ lo hi x = x := by unfold clampZ; rw [if_neg h1, if_neg h2]

/-- What is known of the bin of a sample. -/
structure BinF (lo hi x : Int) (es : List Int) (p : Nat) : Prop where
  low : lo ≤ x → x ≤ hi → ∀ j, j + 1 = p → es.getD j 0 ≤ x
  up : lo ≤ x → x ≤ hi → p < es.length → x < es.getD p 0
  le : p ≤ es.length
theorem binF (lo hi x : Int) (es : List Int) : BinF lo hi x es (binX lo hi es x) := by
  refine ⟨fun h1 h2 j hj => ?_, fun h1 h2 hl => ?_, binX_le lo hi es x⟩
  · unfold binX at hj
    rw [clampZ_id (by omega) (by omega)] at hj
    exact binN_below es x j (by omega)
  · unfold binX at hl ⊢
    rw [clampZ_id (by omega) (by omega)] at hl ⊢
    have := binN_above es x hl
    omega

set_option maxHeartbeats 4000000 in
theorem walkK_BinRises (K : BinK) (v0 v1 v2 : Value) (w : World) (w0 : IsPlan w v0) (w1 : IsInt .i64 v1) (w2 : IsInt .i64 v2) :
    Calls Try.prog 5 #[v0, v1, v2] w fun e w' => e = .returned (.bool true) ∧ Old w w' := by
  obtain ⟨lo, hi, mo, a, n, cap, es, rfl, F⟩ := w0
  obtain ⟨x, hx, rfl⟩ := isI64 w1
  obtain ⟨y, hy, rfl⟩ := isI64 w2
  have B := hide (Bx.start cap F)
  have C0 := hide (awake11 K)
  have C1 := hide (fun (wr : World) (h : Fit wr lo hi mo a n es) => K.find lo hi mo x a n cap es wr hx h)
  have C2 := hide (fun (wr : World) (h : Fit wr lo hi mo a n es) => K.find lo hi mo y a n cap es wr hy h)
  have HN := hide (And.intro F.len F.small)
  unfold binS at C1 C2
  unfold pv at C1 C2 ⊢
  clear K hx hy w1 w2 F
  by_cases hs : soundZ lo hi mo es = 0
  · have H1 : Hid (¬ y < x → binX lo hi es x ≤ binX lo hi es y) := fun h => by
      obtain ⟨h1, _, _⟩ := sound_of hs
      unfold bad1 at h1
      exact binN_mono (clampZ_mono (by omega) (by omega))
    have BF := binF lo hi x es
    simp only [hs, if_true] at C1 C2
    clear hs
    revert C1 C2 H1 BF
    generalize binX lo hi es x = p
    generalize binX lo hi es y = q
    intro H1 BF C1 C2
    have T1 : Hid (decide (y < x) = true ∨ decide (y < x) = false ∧ decide (p ≤ q) = true) := by
      by_cases h : y < x
      · left; simpa using h
      · right; exact ⟨by simpa using h, by simpa using H1.out h⟩
    go_enter Try.func5, Try.ntmps5
    go_wp2_with fail
    refine (C1.out _ B.out.fit).mono ?_
    rintro e w1 ⟨rfl, o1⟩
    have B1 := hide (B.out.mono o1)
    clear B o1
    have a0 := B1.out.c0
    have a1 := B1.out.c1
    have a2 := B1.out.c2
    have a3 := B1.out.c3
    go_wp2_with fail
    refine (C2.out _ B1.out.fit).mono ?_
    rintro e w2 ⟨rfl, o2⟩
    have B2 := hide (B1.out.mono o2)
    clear B1 o2 a0 a1 a2 a3
    go_wp2_with fail
    refine (C0.out _).mono ?_
    rintro e w3 ⟨rfl, o3⟩
    have B3 := hide (B2.out.mono o3)
    clear B2 o3 C0 C1 C2
    have a0 := B3.out.c0
    have a1 := B3.out.c1
    have a3 := B3.out.c3
    have O := B3.out.old
    by_cases h1 : x < lo
    · have g1 : decide (x < lo) = true := by simpa using h1
      rcases T1.out with t1 | ⟨t1, t2⟩
      all_goals
        clear h1
        go_wp2
        go_ret
        exact ⟨by simp, O⟩
    · have g1 : decide (x < lo) = false := by simpa using h1
      by_cases h2 : hi < x
      · have g2 : decide (hi < x) = true := by simpa using h2
        rcases T1.out with t1 | ⟨t1, t2⟩
        all_goals
          clear h1 h2
          go_wp2
          go_ret
          exact ⟨by simp, O⟩
      · have g2 : decide (hi < x) = false := by simpa using h2
        have hle := BF.le
        rw [HN.out.1] at hle
        have H4 := BF.low (by omega) (by omega)
        have H5 := BF.up (by omega) (by omega)
        rw [HN.out.1] at H5
        clear h1 h2 BF
        have f0 : decide ((0 : Int) ≤ p) = true := by simp
        have f1 : decide (p ≤ n) = true := by simpa using hle
        have P0 : p = 0 ∨ ∃ j b off e, p = j + 1 ∧ a = some ⟨b, off, none⟩ ∧ w3.cell? ⟨b, off + j, none⟩ = some (.int .i64 e) ∧ decide (e ≤ x) = true := by
          rcases Nat.eq_zero_or_pos p with h | h
          · left; exact h
          · right
            obtain ⟨b, off, rfl, hc⟩ := rd_int B3.out.fit.rd (i := p - 1) (by rw [HN.out.1]; omega)
            exact ⟨p - 1, b, off, _, by omega, rfl, hc, by simpa using H4 (p - 1) (by omega)⟩
        have P1 : p = n ∨ ∃ b off e, p < n ∧ a = some ⟨b, off, none⟩ ∧ w3.cell? ⟨b, off + p, none⟩ = some (.int .i64 e) ∧ decide (x < e) = true := by
          rcases Nat.lt_or_ge p n with h | h
          · right
            obtain ⟨b, off, rfl, hc⟩ := rd_int B3.out.fit.rd (i := p) (by rw [HN.out.1]; omega)
            exact ⟨b, off, _, h, rfl, hc, by simpa using H5 h⟩
          · left; omega
        clear H1 H4 H5 B3
        have T2 := T1.out
        have hsm := HN.out.2
        clear T1 HN
        rcases P0 with rfl | ⟨j, b, off, e, hj, rfl, hc, g3⟩
        · rcases P1 with rfl | ⟨b, off, e, hlt, rfl, hc, g4⟩
          · rcases T2 with t1 | ⟨t1, t2⟩
            all_goals
              go_wp2
              go_ret
              exact ⟨by simp, O⟩
          · have g5 : ((0 : Int) == (n : Int)) = false := by simp; omega
            have g6 : (0 : Int) < n := by omega
            rw [Nat.add_zero] at hc
            rcases T2 with t1 | ⟨t1, t2⟩
            all_goals
              go_wp2
              go_ret
              exact ⟨by simp, O⟩
        · have e1 : ((p : Int) - 1) = (j : Int) := by omega
          have jw : wrap64 (j : Int) = j := by unfold wrap64; omega
          have q0 : (0 : Int) ≤ j := by omega
          have q1 : (j : Int) < n := by omega
          have z1 : ((p : Int) == 0) = false := by simp; omega
          have z2 : (p == 0) = false := by simp; omega
          have z3 : p ≠ 0 := by omega
          clear hj
          rcases P1 with hpn | ⟨b', off', e', hlt, ha, hc', g4⟩
          · have g5 : ((p : Int) == (n : Int)) = true := by simp; omega
            have g6 : (p == n) = true := by simpa using hpn
            rcases T2 with t1 | ⟨t1, t2⟩
            all_goals
              clear hpn
              go_wp2
              go_ret
              exact ⟨by simp, O⟩
          · obtain ⟨rfl, rfl⟩ : b = b' ∧ off = off' := by simpa using ha
            clear ha
            have g5 : ((p : Int) == (n : Int)) = false := by simp; omega
            have g6 : (p == n) = false := by simp; omega
            have g7 : (p : Int) < n := by omega
            rcases T2 with t1 | ⟨t1, t2⟩
            all_goals
              go_wp2
              go_ret
              exact ⟨by simp, O⟩
  · simp only [hs, if_false] at C1 C2
    revert C1 C2 hs
    generalize soundZ lo hi mo es = s
    intro hs C1 C2
    have t1 : (s != 0) = true := by simpa using hs
    go_enter Try.func5, Try.ntmps5
    go_wp2_with fail
    refine (C1.out _ B.out.fit).mono ?_
    rintro e w1 ⟨rfl, o1⟩
    have B1 := hide (B.out.mono o1)
    clear B o1
    have a0 := B1.out.c0
    have a1 := B1.out.c1
    have a2 := B1.out.c2
    have a3 := B1.out.c3
    go_wp2_with fail
    refine (C2.out _ B1.out.fit).mono ?_
    rintro e w2 ⟨rfl, o2⟩
    have B2 := hide (B1.out.mono o2)
    clear B1 o2 a0 a1 a2 a3
    go_wp2_with fail
    refine (C0.out _).mono ?_
    rintro e w3 ⟨rfl, o3⟩
    have B3 := hide (B2.out.mono o3)
    clear B2 o3
    go_wp2_with fail
    refine (C0.out _).mono ?_
    rintro e w4 ⟨rfl, o4⟩
    have O := B3.out.old.trans o4
    clear B3 o4
    go_wp2
    go_ret
    exact ⟨rfl, O⟩
end Go.Proofs.Ytkhhjdbmkoggeaa
