/-
  Package share: through, Join, Fits.
-/
import Derived.Test.YthfaahngnnfefaaShareB
namespace Go.Proofs.Ythfaahngnnfefaa
open Go.RowKit M Pm
set_option linter.unusedVariables false

/-- All points fit just if the one polynomial through all of them has no more numbers than are enough. -/
theorem fits_len {ps : List Pt} {n m : Nat} {s : List Nat} (S : SoundP ps) (hl : ps.length = n) (h0 : 0 < m) (hm : m ≤ n) (hk : s.length ≤ n) (T : Tight (s.map F)) (h : ∀ j, j < n → ev (s.map F) (ptX ps j) = ptY ps j) :
    fits ps m n = decide (s.length ≤ m) := by
  have O : On s ps := ⟨fun i hi => by
    unfold evN
    have := h i (by omega)
    unfold ptX ptY at this
    rw [this, F_val, Nat.mod_eq_of_lt (S.inr i hi).2.2]⟩
  by_cases e : s.length ≤ m
  · rw [decide_eq_true e, ← hl]
    exact on_fits S h0 (by omega) e O
  · rw [decide_eq_false e]
    cases hf : fits ps m n with
    | false => rfl
    | true =>
      exfalso
      have hall := (fits_iff ps m _).1 hf
      have hl2 : (ps.take m).length = m := by rw [List.length_take]; omega
      have ap := apart_X S
      obtain ⟨Q, hQ⟩ : ∃ Q, Q = lagL (ptX (ps.take m)) (ptY (ps.take m)) m m := ⟨_, rfl⟩
      have hQl : Q.length ≤ m := by rw [hQ]; exact lagL_length _ _ m m (Nat.le_refl _)
      have hQe : ∀ i, i < n → ev Q (ptX ps i) = ptY ps i := by
        intro i hi
        rw [hQ, ev_lagL]
        have := hall i hi
        unfold lagN at this
        rw [hl2] at this
        unfold ptY
        rw [← this, F_surj]
        rfl
      have hnd : ((List.range n).map (ptX ps)).Nodup := by
        rw [List.nodup_iff_pairwise_ne, List.pairwise_map]
        refine List.Pairwise.imp_of_mem ?_ (List.nodup_iff_pairwise_ne.1 List.nodup_range)
        intro a b ha hb hne
        exact ap a b (by rw [hl]; exact List.mem_range.1 ha) (by rw [hl]; exact List.mem_range.1 hb) hne
      have hlen : ((List.range n).map (ptX ps)).length = n := by rw [List.length_map, List.length_range]
      have hsame := same_ev hnd (l := s.map F) (m := Q) (by rw [hlen, List.length_map]; exact hk) (by omega) (fun x hx => by
        obtain ⟨i, hi, rfl⟩ := List.mem_map.1 hx
        have h1 := List.mem_range.1 hi
        rw [h i h1, hQe i h1])
      have := S.le
      have := len_of_ev (l := s.map F) (m := Q) (n := 64) (by omega) (by rw [List.length_map]; omega) (by omega) T hsame
      rw [List.length_map] at this
      omega

theorem joinErr_big {enough : Int} {ps : List Pt} (h : enough < 1 ∨ 64 < enough) : joinErr enough ps = 1 := by unfold joinErr; rw [if_pos h]
theorem joinErr_pts {enough : Int} {ps : List Pt} (h : ¬(enough < 1 ∨ 64 < enough)) (he : errOf ps ≠ 0) : joinErr enough ps = errOf ps := by unfold joinErr; rw [if_neg h, if_pos he]
theorem joinErr_few {enough : Int} {ps : List Pt} (h : ¬(enough < 1 ∨ 64 < enough)) (he : errOf ps = 0) (hf : (ps.length : Int) < enough) : joinErr enough ps = 12 := by unfold joinErr; rw [if_neg h, if_neg (by rw [he]; simp), if_pos hf]
theorem joinErr_ok {enough : Int} {ps : List Pt} (h : ¬(enough < 1 ∨ 64 < enough)) (he : errOf ps = 0) (hf : ¬(ps.length : Int) < enough) : joinErr enough ps = 0 := by unfold joinErr; rw [if_neg h, if_neg (by rw [he]; simp), if_neg hf]

set_option maxHeartbeats 2000000 in
theorem through_any (enough : Int) (ps : List Pt) (n : Nat) (a : Option Addr) (cap : Nat) (w : World) (hp : PtsOf w a n cap ps) (hn : n ≤ 281474976710656) (he : I64 enough) :
    Calls Try.prog 26 #[.int .i64 enough, .slice a n cap] w fun e w' => Old w w' ∧ ∃ (s : List Nat) (r : Option Addr) (k cr : Nat), e = .returned (.tuple #[.slice r k cr, .int .i64 (joinErr enough ps : Nat)]) ∧
      (joinErr enough ps = 0 → s.length = k ∧ k ≤ n ∧ Tight (s.map F) ∧ ∀ j, j < n → ev (s.map F) (ptX ps j) = ptY ps j) := by
  obtain ⟨he1, he2⟩ := he
  have C1 := hide (polyThrough_any ps n a cap w hp hn)
  have HL := hide hp.1
  clear hp
  by_cases h1 : enough < 1 ∨ 64 < enough
  · have E : joinErr enough ps = 1 := joinErr_big h1
    have B1 := withinB_no (m := 64) h1
    rw [E]
    clear h1
    go_enter Try.func26, Try.ntmps26
    go_wp2_with fail
    refine (within_any enough 64 _).mono ?_
    rintro e w' ⟨rfl, rfl⟩
    rw [B1]
    go_wp2
    go_ret2
    exact ⟨Old.refl _, [], none, 0, 0, rfl, fun h => by cases h⟩
  · have B1 := withinB_yes (z := enough) (m := 64) (by omega) (by omega)
    by_cases h2 : errOf ps = 0
    · have H2 := hide h2
      rw [h2] at C1
      by_cases h3 : (n : Int) < enough
      · have E : joinErr enough ps = 12 := joinErr_few h1 h2 (by rw [HL.out]; exact h3)
        have d3 : decide ((n : Int) < enough) = true := decide_eq_true h3
        rw [E]
        clear h1 h2
        go_enter Try.func26, Try.ntmps26
        go_wp2_with fail
        refine (within_any enough 64 _).mono ?_
        rintro e w' ⟨rfl, rfl⟩
        rw [B1]
        go_wp2_with fail
        refine C1.out.mono ?_
        rintro e w1 ⟨o1, s, r, k, cr, rfl, hcr, hk0, hs⟩
        clear hk0 hs
        go_wp2
        go_ret2
        exact ⟨o1, [], none, 0, 0, rfl, fun h => by cases h⟩
      · have E : joinErr enough ps = 0 := joinErr_ok h1 h2 (by rw [HL.out]; exact h3)
        have d3 : decide ((n : Int) < enough) = false := decide_eq_false h3
        rw [E]
        clear h1 h2
        go_enter Try.func26, Try.ntmps26
        go_wp2_with fail
        refine (within_any enough 64 _).mono ?_
        rintro e w' ⟨rfl, rfl⟩
        rw [B1]
        go_wp2_with fail
        refine C1.out.mono ?_
        rintro e w1 ⟨o1, s, r, k, cr, rfl, hcr, hk0, hs⟩
        have HS := hide (hs trivial)
        clear hk0 hs
        go_wp2
        go_ret2
        exact ⟨o1, s, r, k, cr, rfl, fun _ => ⟨HS.out.1, HS.out.2.1, HS.out.2.2.2.1, HS.out.2.2.2.2.1⟩⟩
    · have E : joinErr enough ps = errOf ps := joinErr_pts h1 h2
      have d2 : (((errOf ps : Nat) : Int) != 0) = true := by rw [bne_iff_ne]; omega
      rw [E]
      clear h1
      have H2 := hide h2
      clear h2
      go_enter Try.func26, Try.ntmps26
      go_wp2_with fail
      refine (within_any enough 64 _).mono ?_
      rintro e w' ⟨rfl, rfl⟩
      rw [B1]
      go_wp2_with fail
      refine C1.out.mono ?_
      rintro e w1 ⟨o1, s, r, k, cr, rfl, hcr, hk0, hs⟩
      clear hk0 hs
      go_wp2
      go_ret2
      exact ⟨o1, [], none, 0, 0, rfl, fun h => absurd h H2.out⟩

set_option maxHeartbeats 2000000 in
theorem join_any : JoinC := by
  intro enough ps n a cap w hp hn he
  have HP := hide hp
  have C1 := hide (through_any enough ps n a cap w hp hn he)
  clear hp
  obtain ⟨he1, he2⟩ := he
  by_cases h0 : joinErr enough ps = 0
  · obtain ⟨j1, j2, S⟩ := join_ok h0
    rw [HP.out.1] at j2
    obtain ⟨m, rfl⟩ : ∃ m : Nat, enough = m := ⟨enough.toNat, by omega⟩
    have hcap := HP.out.2.1
    have n64 : n ≤ 64 := by have := S.le; rw [HP.out.1] at this; exact this
    have Z : joinN (m : Int) ps = zeroOf (ps.take m) m := by
      unfold joinN zeroOf
      rw [if_pos h0, if_pos (sound_err (S.take (by omega) (by rw [HP.out.1]; omega)))]; rfl
    have Z2 : Hid (errOf (ps.take m) = 0) := sound_err (S.take (by omega) (by rw [HP.out.1]; omega))
    rw [h0] at C1 ⊢
    rw [Z]
    clear S h0 Z
    have m0 : (0 : Int) ≤ m := by omega
    have m1 : (m : Int) ≤ cap := by omega
    go_enter Try.func13, Try.ntmps13
    go_wp2_with fail
    refine C1.out.mono ?_
    rintro e w1 ⟨o1, s, r, k, cr, rfl, hs⟩
    have P1 := hide ((HP.out.mono o1).take (k := m) (by omega))
    clear hs C1
    go_wp2_with fail
    refine (polyZero_any (ps.take m) m a cap w1 P1.out (by omega)).mono ?_
    rintro e w2 ⟨rfl, o2⟩
    rw [Z2.out]
    go_wp2
    go_ret2
    exact ⟨rfl, o1.trans o2⟩
  · have d0 : (((joinErr enough ps : Nat) : Int) != 0) = true := by rw [bne_iff_ne]; omega
    have Z : joinN enough ps = 0 := by unfold joinN; rw [if_neg h0]
    rw [Z]
    clear h0
    go_enter Try.func13, Try.ntmps13
    go_wp2_with fail
    refine C1.out.mono ?_
    rintro e w1 ⟨o1, s, r, k, cr, rfl, hs⟩
    clear hs C1
    go_wp2
    go_ret2
    exact ⟨rfl, o1⟩

set_option maxHeartbeats 2000000 in
theorem fits_any : FitsC := by
  intro enough ps n a cap w hp hn he
  have HP := hide hp
  have C1 := hide (through_any enough ps n a cap w hp hn he)
  clear hp
  obtain ⟨he1, he2⟩ := he
  by_cases h0 : joinErr enough ps = 0
  · obtain ⟨j1, j2, S⟩ := join_ok h0
    rw [HP.out.1] at j2
    obtain ⟨m, rfl⟩ : ∃ m : Nat, enough = m := ⟨enough.toNat, by omega⟩
    have HS := hide S
    have FB : fitsB (m : Int) ps = fits ps m n := by unfold fitsB; rw [if_pos h0, HP.out.1]; rfl
    rw [h0] at C1 ⊢
    rw [FB]
    clear S h0 FB
    go_enter Try.func15, Try.ntmps15
    go_wp2_with fail
    refine C1.out.mono ?_
    rintro e w1 ⟨o1, s, r, k, cr, rfl, hs⟩
    have H : Hid (decide (k ≤ m) = fits ps m n) := by
      obtain ⟨q1, q2, q3, q4⟩ := hs trivial
      show _ = _
      rw [fits_len HS.out HP.out.1 (by omega) (by omega) (by omega) q3 q4, q1]
    clear hs C1
    go_wp2
    go_ret2
    rw [H.out]
    exact ⟨rfl, o1⟩
  · have d0 : (((joinErr enough ps : Nat) : Int) != 0) = true := by rw [bne_iff_ne]; omega
    have Z : fitsB enough ps = false := by unfold fitsB; rw [if_neg h0]
    rw [Z]
    clear h0
    go_enter Try.func15, Try.ntmps15
    go_wp2_with fail
    refine C1.out.mono ?_
    rintro e w1 ⟨o1, s, r, k, cr, rfl, hs⟩
    clear hs C1
    go_wp2
    go_ret2
    exact ⟨rfl, o1⟩
end Go.Proofs.Ythfaahngnnfefaa
