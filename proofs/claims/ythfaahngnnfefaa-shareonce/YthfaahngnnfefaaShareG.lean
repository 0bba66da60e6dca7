/-
  Package share: Other; so all of layer 7's calls are what they owe.
-/
import Derived.Test.YthfaahngnnfefaaShareF
import Derived.Laws.IdiomCopy
namespace Go.Proofs.Ythfaahngnnfefaa
open Go.RowKit M Pm
set_option linter.unusedVariables false

/-- What copy lays into a row of the call's own, that is no shorter than what is copied. -/
theorem copy_into {P : Program} {dT sT e t : TypeId} (hu : P.underlying dT = some (.slice e)) (hs : (P.info? e).map (·.size) = some 1) {k : IntKind} {g K n ca : Nat} {zs xs : List Nat} {a : Option Addr} {w : World} (R : Row w g t (nums k zs)) (hz : zs.length = K) (rd : Rd w a (nums k xs)) (hx : xs.length = n) (hn : n ≤ K) :
    ∃ w', (∀ ty, (Builtin.copy_ #[dT, sT] ty #[.slice (some ⟨g, 0, none⟩) K K, .slice a n ca]).run P w = .ok (goInt n) w') ∧ Row w' g t (nums k (xs ++ zs.drop n)) ∧ w.grownBy w' (some g) := by
  by_cases h0 : n = 0
  · subst h0
    obtain rfl : xs = [] := List.eq_nil_of_length_eq_zero hx
    exact ⟨w, fun ty => run_copy_none w dT sT ty e _ a K K 0 ca hu hs (Nat.min_eq_left (Nat.zero_le _)), by simpa using R, grown_old (Old.refl _) _⟩
  · obtain ⟨b, off, z, rfl, _, _⟩ := rd.num (i := 0) (by omega)
    have hl : (nums k xs).length = n := by rw [nums_length, hx]
    refine ⟨_, fun ty => ?_, ?_, grown_setRow w g ((nums k xs) ++ (nums k zs).drop n).toArray⟩
    · have hrun := run_copy_row P w dT sT ty e g 0 K K ⟨b, off, none⟩ n ca (nums k zs).toArray t (nums k xs) hu hs R (by rw [hl]; exact (Nat.min_eq_left hn).symm)
        (fun j v hj => by
          obtain ⟨b', off', ha, hc⟩ := rd j v hj
          obtain ⟨rfl, rfl⟩ : b = b' ∧ off = off' := by simpa using ha
          rw [Addr.add_lit]; exact hc) (by rw [hl]; simp [nums_length, hz, hn]) (nums_oneCell k xs)
      rw [hrun, hl]
      simp
    · have := R.whole ((nums k xs) ++ (nums k zs).drop n)
      have e1 : nums k (xs ++ zs.drop n) = (nums k xs) ++ (nums k zs).drop n := by simp [nums, List.map_drop]
      rw [e1]; exact this

theorem otherErr_arg {secret : Nat} {enough : Int} {ps : List Pt} (h : enough < 1 ∨ 64 < enough ∨ (ps.length : Int) ≠ enough - 1) : otherErr secret enough ps = 1 := by unfold otherErr; rw [if_pos h]
theorem otherErr_range {secret : Nat} {enough : Int} {ps : List Pt} (h : ¬(enough < 1 ∨ 64 < enough ∨ (ps.length : Int) ≠ enough - 1)) (hs : 2305843009213693951 ≤ secret) : otherErr secret enough ps = 4 := by unfold otherErr; rw [if_neg h, if_pos hs]
theorem otherErr_none {secret : Nat} {enough : Int} {ps : List Pt} (h : ¬(enough < 1 ∨ 64 < enough ∨ (ps.length : Int) ≠ enough - 1)) (hs : ¬2305843009213693951 ≤ secret) (h0 : ps.length = 0) : otherErr secret enough ps = 0 := by unfold otherErr; rw [if_neg h, if_neg hs, if_pos h0]
theorem otherErr_pts {secret : Nat} {enough : Int} {ps : List Pt} (h : ¬(enough < 1 ∨ 64 < enough ∨ (ps.length : Int) ≠ enough - 1)) (hs : ¬2305843009213693951 ≤ secret) (h0 : ¬ps.length = 0) : otherErr secret enough ps = errOf ps := by unfold otherErr; rw [if_neg h, if_neg hs, if_neg h0]

theorem ev_more (s : List Nat) (m : Nat) (x : Fp) : ev ((s ++ List.replicate m 0).map F) x = ev (s.map F) x := by
  rw [List.map_append, ev_append, ev_zero (l := (List.replicate m 0).map F)]
  · grind
  · intro c hc
    obtain ⟨y, hy, rfl⟩ := List.mem_map.1 hc
    rw [List.eq_of_mem_replicate hy]; rfl

set_option maxHeartbeats 4000000 in
theorem other_any : OtherC := by
  intro secret enough ps n a cap w hp hn hs he
  have HP := hide hp
  have HL : Hid (ps.length = n) := hp.1
  obtain ⟨he1, he2⟩ := he
  clear hp
  by_cases h1 : enough < 1 ∨ 64 < enough
  · have E : otherErr secret enough ps = 1 := otherErr_arg (by omega)
    have B1 := withinB_no (m := 64) h1
    rw [E]
    clear h1
    go_enter Try.func17, Try.ntmps17
    go_wp2_with fail
    refine (within_any enough 64 _).mono ?_
    rintro e w' ⟨rfl, rfl⟩
    rw [B1]
    go_wp2
    go_ret2
    exact ⟨Old.refl _, [], none, 0, 0, rfl, Nat.le_refl _, fun _ => rfl, fun h => by cases h⟩
  · have B1 := withinB_yes (z := enough) (m := 64) (by omega) (by omega)
    obtain ⟨K, rfl⟩ : ∃ K : Nat, enough = ((K + 1 : Nat) : Int) := ⟨enough.toNat - 1, by omega⟩
    replace B1 : withinB ((K : Int) + 1) 64 = true := B1
    have hK : K < 64 := by omega
    by_cases h2 : n = K
    · have d2 : ((n : Int) != (K : Int)) = false := by simp [h2]
      have H2 : Hid (¬((((K + 1 : Nat) : Int) < 1 ∨ 64 < ((K + 1 : Nat) : Int) ∨ (ps.length : Int) ≠ ((K + 1 : Nat) : Int) - 1))) := by
        show ¬_
        rw [HL.out]; omega
      have NK := hide h2
      clear h1 h2
      by_cases h3 : 2305843009213693951 ≤ secret
      · have E := otherErr_range H2.out h3
        have d3 : decide ((2305843009213693951 : Int) ≤ secret) = true := decide_eq_true (by omega)
        rw [E]
        clear h3
        go_enter Try.func17, Try.ntmps17
        go_wp2_with fail
        refine (within_any _ 64 _).mono ?_
        rintro e w' ⟨rfl, rfl⟩
        rw [B1]
        go_wp2
        go_ret2
        exact ⟨Old.refl _, [], none, 0, 0, rfl, Nat.le_refl _, fun _ => rfl, fun h => by cases h⟩
      · have d3 : decide ((2305843009213693951 : Int) ≤ secret) = false := decide_eq_false (by omega)
        have ls : secret < 2305843009213693951 := by omega
        have hmk := make_nums (P := Try.prog) (t := 23) (e := 22) (k := .u64) (B := 8) Try.underlying23 (by kernel_rfl) K (by omega) (by omega)
        have R0 : Hid (Row (w.alloc (.cells (nums .u64 (List.replicate K 0)).toArray 22)) w.heap.size 22 (nums .u64 (List.replicate K 0))) := Row.new _ _ _
        have O0 := Old.of_alloc w (.cells (nums .u64 (List.replicate K 0)).toArray 22)
        by_cases h4 : n = 0
        · have E := otherErr_none H2.out h3 (by rw [HL.out]; exact h4)
          have K0 : Hid (K = 0) := by show _ = _; rw [← NK.out]; exact h4
          have P0 : Hid (ps = []) := List.eq_nil_of_length_eq_zero (by rw [HL.out]; exact h4)
          have d4 : ((n : Int) == 0) = true := by simp [h4]
          rw [E]
          clear h3 h4
          go_enter Try.func17, Try.ntmps17
          go_wp2_with fail
          refine (within_any _ 64 _).mono ?_
          rintro e w' ⟨rfl, rfl⟩
          rw [B1]
          go_wp2
          go_ret2
          exact ⟨O0, [], _, K, K, rfl, Nat.le_refl _, fun h => absurd rfl h, fun _ => ⟨by omega, by rw [K0.out]; rfl, by simp, ⟨fun i hi => by rw [P0.out] at hi; simp at hi⟩, Rd.nil _, fun x hx => by have := K0.out; omega⟩⟩
        · have E := otherErr_pts H2.out h3 (by rw [HL.out]; exact h4)
          have d4 : ((n : Int) == 0) = false := by rw [beq_eq_false_iff_ne]; omega
          have C1 := hide (polyThrough_any ps n a cap _ (HP.out.mono O0) hn)
          rw [E]
          clear h3 h4 E
          by_cases h5 : errOf ps = 0
          · rw [h5] at C1 ⊢
            have S := hide (sound_of h5)
            clear h5
            go_enter Try.func17, Try.ntmps17
            go_wp2_with fail
            refine (within_any _ 64 _).mono ?_
            rintro e w' ⟨rfl, rfl⟩
            rw [B1]
            go_wp2_with fail
            refine C1.out.mono ?_
            rintro e w1 ⟨o1, s1, r1, k1, cr1, rfl, _, _, _⟩
            clear C1 hmk
            have R1 := hide (R0.out.mono o1)
            have O1 := O0.trans o1
            clear R0 O0 o1
            go_wp2_with fail
            refine (lowered_any secret ps n a cap w1 (HP.out.mono O1) ls S.out).mono ?_
            rintro e w2 ⟨rfl, RL, o2⟩
            have R2 := hide (R1.out.mono o2)
            have O2 := O1.trans o2
            have PL : Hid (PtsOf w2 (some ⟨w1.heap.size, 0, none⟩) n n (lowL secret ps)) := by
              refine ⟨by rw [lowL_length, HL.out], Nat.le_refl _, ?_, ?_⟩
              · intro p hp
                obtain ⟨i, hi, rfl⟩ := List.mem_iff_getElem.1 hp
                have hq := (lowL_sound (secret := secret) S.out).inr i hi
                rw [at1, at2, List.getD_eq_getElem?_getD, List.getElem?_eq_getElem hi, Option.getD_some] at hq
                omega
              · have F : FreshP w1.heap.size w2 (some ⟨w1.heap.size, 0, none⟩) (lowL secret ps) := ⟨_, _, [], rfl, Nat.le_refl _, by rw [List.append_nil]; exact RL⟩
                exact F.pts
            have EL : Hid (errOf (lowL secret ps) = 0) := sound_err (lowL_sound S.out)
            clear R1 O1 o2 RL
            go_wp2_with fail
            refine (polyThrough_any (lowL secret ps) n _ _ w2 PL.out hn).mono ?_
            rintro e w3 ⟨o3, s, r, k, cr, rfl, hcr, _, hs3⟩
            obtain ⟨sl, sk, slt, _, sev, srd⟩ := hs3 EL.out
            rw [EL.out]
            have R3 := R2.out.mono o3
            have O3 := O2.trans o3
            have HO : Hid (On (secret :: (s ++ List.replicate (K - k) 0)) ps) := lowL_on S.out (fun j hj => by rw [ev_more]; exact sev j (by rw [← HL.out]; exact hj))
            have kK : k ≤ K := by rw [← NK.out]; exact sk
            have HB : Hid (∀ y ∈ s ++ List.replicate (K - k) 0, y < 2305843009213693951) := fun y hy => by
              rcases List.mem_append.1 hy with hy | hy
              · exact slt y hy
              · rw [List.eq_of_mem_replicate hy]; omega
            have HLn : Hid ((s ++ List.replicate (K - k) 0).length = K) := by show _ = _; rw [List.length_append, sl, List.length_replicate]; omega
            obtain ⟨w4, hcp, R4, G4⟩ := copy_into (P := Try.prog) (dT := 23) (sT := 23) (e := 22) (ca := cr) Try.underlying23 (by kernel_rfl) R3 List.length_replicate srd sl kK
            have R5 := hide R4
            rw [List.drop_replicate] at R5
            have O4 := O3.grown G4 (Nat.le_refl _)
            clear R3 R4 G4 R2 O2 o3 O3 hs3 slt sev srd PL
            go_wp2
            go_ret2
            exact ⟨O4, s ++ List.replicate (K - k) 0, _, K, K, rfl, Nat.le_refl _, fun h => absurd rfl h, fun _ => ⟨by omega, HLn.out, HB.out, HO.out, R5.out.rd, fun x _ hx => by cases hx; exact Nat.le_refl _⟩⟩
          · have d5 : (((errOf ps : Nat) : Int) != 0) = true := by rw [bne_iff_ne]; omega
            have H5 := hide h5
            clear h5
            go_enter Try.func17, Try.ntmps17
            go_wp2_with fail
            refine (within_any _ 64 _).mono ?_
            rintro e w' ⟨rfl, rfl⟩
            rw [B1]
            go_wp2_with fail
            refine C1.out.mono ?_
            rintro e w1 ⟨o1, s1, r1, k1, cr1, rfl, _, _, _⟩
            go_wp2
            go_ret2
            exact ⟨O0.trans o1, [], none, 0, 0, rfl, Nat.le_refl _, fun _ => rfl, fun h => absurd h H5.out⟩
    · have d2 : ((n : Int) != (K : Int)) = true := by rw [bne_iff_ne]; omega
      have E : otherErr secret ((K + 1 : Nat) : Int) ps = 1 := otherErr_arg (by rw [HL.out]; omega)
      rw [E]
      clear h1 h2
      go_enter Try.func17, Try.ntmps17
      go_wp2_with fail
      refine (within_any _ 64 _).mono ?_
      rintro e w' ⟨rfl, rfl⟩
      rw [B1]
      go_wp2
      go_ret2
      exact ⟨Old.refl _, [], none, 0, 0, rfl, Nat.le_refl _, fun _ => rfl, fun h => by cases h⟩

theorem shareK : ShareK := ⟨split_any, join_any, fits_any, other_any⟩
end Go.Proofs.Ythfaahngnnfefaa
