/-
  Layer 14's statement LetterReads.
-/
import Derived.Test.YtccphdngmhfmnaaLaws14
namespace Go.Proofs.Ytccphdngmhfmnaa
open Go.RowKit Cn
set_option linter.unusedVariables false

theorem nmN_lt {l : List Nat} (hl : ∀ x ∈ l, x < 256) (er : Int) (n : Nat) : nmN l er n < 256 ^ n := by
  have h1 := numL_lt (tkS_lt hl er n)
  have h2 : 256 ^ (tkS l er n).length ≤ 256 ^ n := Nat.pow_le_pow_right (by omega) (tkS_len l er n)
  exact Nat.lt_of_lt_of_le h1 h2
theorem nmN_bad (l : List Nat) {er : Int} (h : er ≠ 0) (n : Nat) : nmN l er n = 0 := by
  unfold nmN tkS
  rw [if_pos h]
  rfl

/-- What is so between two asks: the same fields are left to both. -/
def Rs (K : LetterK) (w : World) (gf : Nat) (v : Value) (wr : World) (l : List Nat) (er : Int) : Prop := Lw w [(gf, 44, fdc l er)] (K.Eye v l er) wr ∧ (∀ x ∈ l, x < 256) ∧ l.length ≤ 65536

set_option maxRecDepth 100000 in
set_option maxHeartbeats 8000000 in
theorem walkK_LetterReads (K : LetterK) (v0 v1 : Value) (w : World) (w0 : IsNums .u8 256 140737488351232 w v0) (w1 : IsNums .u8 256 140737488351232 w v1) :
    Calls Try.prog 4 #[v0, v1] w fun e w' => e = .returned (.bool true) ∧ Old w w' := by
  obtain ⟨b, n, cap, xs, rfl, Y⟩ := By14.of w0
  obtain ⟨d, m, cm, ks, rfl, Z⟩ := By14.of w1
  have HZ := hide Z
  have HY := hide Y
  have AW := hide (awake14 K)
  have HO := hide (And.intro (opL_lt Y.each) (opL_len xs))
  have C1 := hide (fun (wr : World) (o : Old w wr) => refOpen14_any xs b n cap Y.each Y.len (by have := Y.small; omega) Y.room wr (Y.mono o).rd)
  clear w0 w1 Y Z
  go_enter Try.func4, Try.ntmps4
  go_wp2_with fail
  refine (Lw.look (K := K) (Bxs.nil w) HY.out).mono ?_
  rintro e w1 ⟨v, rfl, L1⟩
  have L1 := hide L1
  clear HY
  go_wp2_with fail
  refine (C1.out _ L1.out.old).mono ?_
  rintro e w2 ⟨rfl, o2⟩
  have L2 := hide ((L1.out.mono (K.eyeS _ _ _) o2).alloc (K.eyeS _ _ _) 44 (fdc (opL xs) (opE xs)) rfl)
  clear C1 L1 o2
  unfold fdv
  go_wp2_with fail
  have R0 : Hid (Rs K w w2.heap.size v (w2.alloc (.cells #[.string (Ssb.bstr (opL xs)), .int .i64 (opE xs)] 44)) (opL xs) (opE xs)) := ⟨L2.out, HO.out.1, HO.out.2⟩
  clear L2 HO
  go_loopw [7] (fun vi wr => ∃ (i : Nat) (l : List Nat) (er : Int), i ≤ 30 ∧ i ≤ m ∧ vi = .int .i64 (i : Int) ∧ Hid (Rs K w w2.heap.size v wr l er)) (fun vi _ => 30 - (intOf vi).toNat)
  case atStart => exact ⟨0, _, _, by omega, by omega, rfl, R0⟩
  case round =>
    clear R0
    obtain ⟨i, l, er, i30, im, rfl, R⟩ := hrel
    by_cases hl : i < m ∧ i < 30
    · obtain ⟨hl1, hl2⟩ := hl
      have t1 : decide ((i : Int) < (m : Int)) = true := by simp; omega
      have t1' : decide (i < m) = true := by simpa using hl1
      have t2 : decide ((i : Int) < 30) = true := by simp; omega
      have q0 : (0 : Int) ≤ i := by omega
      have q1 : (i : Int) < m := by omega
      obtain ⟨b1, o1, x, rfl, hx, cx⟩ := (HZ.out.mono R.out.1.old).rd.num (i := i) (by rw [HZ.out.len]; exact hl1)
      have iw : wrap64 ((i : Int) + 1) = ((i + 1 : Nat) : Int) := by unfold wrap64; omega
      obtain ⟨r, hr⟩ : ∃ r, r = x % 3 := ⟨_, rfl⟩
      have tr : Int.tmod (x : Int) 3 = (r : Int) := by rw [hr, Int.tmod_eq_emod_of_nonneg (Int.natCast_nonneg _)]; omega
      have r3 : r = 0 ∨ r = 1 ∨ r = 2 := by omega
      have C4 := hide (fun wr : World => refNumber14_any l er 4 R.out.2.1 (by have := R.out.2.2; omega) (by omega) wr)
      have C8 := hide (fun wr : World => refNumber14_any l er 8 R.out.2.1 (by have := R.out.2.2; omega) (by omega) wr)
      have n4 := nmN_lt R.out.2.1 er 4
      have n8 := nmN_lt R.out.2.1 er 8
      rw [show ((4 : Nat) : Int) = 4 from rfl] at C4
      rw [show ((8 : Nat) : Int) = 8 from rfl] at C8
      have e4 : IntKind.i64.wrap ((nmN l er 4 : Nat) : Int) = ((nmN l er 4 : Nat) : Int) := by rw [IntKind.wrap_i64]; omega
      have HN : Hid (nmN l er 4 ≤ 4294967295) := by show _ ≤ _; omega
      have c0 := (R.out.1.row 0 rfl).cell (i := 0) rfl
      have c1 := (R.out.1.row 0 rfl).cell (i := 1) rfl
      have L4 : Hid (∀ wr : World, Old wr wr → True) := fun _ _ => trivial
      unfold fdv at C4 C8
      clear n4 n8 hx hr L4
      rcases r3 with rfl | rfl | rfl
      · clear C8
        go_wp2_with fail
        refine (C4.out _).mono ?_
        rintro e w3 ⟨rfl, o3⟩
        have L3 := hide (R.out.1.mono (K.eyeS _ _ _) o3)
        have H3 := hide (And.intro (tkL_lt R.out.2.1 er 4) (Nat.le_trans (tkL_len l er 4) R.out.2.2))
        clear R C4 o3 c0 c1 cx
        go_wp2_with (refine wp_store_whole rfl 44 _ _ rfl w2.heap.size rfl (fdc (tkL l er 4) (tkE l er 4)) rfl (L3.out.row 0 rfl) infoFd rfl (fdc_one _ _) ?_; rintro w9 h9
                     have L9 := hide (L3.out.store (K.eyeS _ _ _) 0 rfl _ h9)
                     clear h9)
        refine (L9.out.eSmall).mono ?_
        rintro e w4 ⟨rfl, LA⟩
        have LA := hide LA
        clear L3 L9
        go_wp2_with fail
        refine ⟨⟨i + 1, tkL l er 4, tkE l er 4, by omega, by omega, by simp, ⟨LA.out, H3.out.1, H3.out.2⟩⟩, by simp [intOf]; omega⟩
      · clear C4 e4
        go_wp2_with fail
        refine (C8.out _).mono ?_
        rintro e w3 ⟨rfl, o3⟩
        have L3 := hide (R.out.1.mono (K.eyeS _ _ _) o3)
        have H3 := hide (And.intro (tkL_lt R.out.2.1 er 8) (Nat.le_trans (tkL_len l er 8) R.out.2.2))
        clear R C8 o3 c0 c1 cx
        go_wp2_with (refine wp_store_whole rfl 44 _ _ rfl w2.heap.size rfl (fdc (tkL l er 8) (tkE l er 8)) rfl (L3.out.row 0 rfl) infoFd rfl (fdc_one _ _) ?_; rintro w9 h9
                     have L9 := hide (L3.out.store (K.eyeS _ _ _) 0 rfl _ h9)
                     clear h9)
        refine (L9.out.eGreat).mono ?_
        rintro e w4 ⟨rfl, LA⟩
        have LA := hide LA
        clear L3 L9
        go_wp2_with fail
        refine ⟨⟨i + 1, tkL l er 8, tkE l er 8, by omega, by omega, by simp, ⟨LA.out, H3.out.1, H3.out.2⟩⟩, by simp [intOf]; omega⟩
      · clear C8
        have C5 := hide (fun wr : World => refTake14_any (tkL l er 4) (tkE l er 4) (nmN l er 4) (Nat.le_trans (tkL_len l er 4) (by have := R.out.2.2; omega)) HN.out wr)
        unfold fdv at C5
        go_wp2_with fail
        refine (C4.out _).mono ?_
        rintro e w3 ⟨rfl, o3⟩
        have L3 := hide (R.out.1.mono (K.eyeS _ _ _) o3)
        have H3 := hide (And.intro (tkL_lt (tkL_lt R.out.2.1 er 4) (tkE l er 4) (nmN l er 4)) (Nat.le_trans (tkL_len (tkL l er 4) (tkE l er 4) (nmN l er 4)) (Nat.le_trans (tkL_len l er 4) R.out.2.2)))
        clear R C4 o3 c0 c1 cx HN
        go_wp2_with (first
          | (refine wp_store_whole rfl 44 _ _ rfl w2.heap.size rfl (fdc (tkL l er 4) (tkE l er 4)) rfl (L3.out.row 0 rfl) infoFd rfl (fdc_one _ _) ?_; rintro w9 h9
             have L9 := hide (L3.out.store (K.eyeS _ _ _) 0 rfl _ h9)
             clear h9)
          | refine wp_load_whole rfl 44 _ rfl w2.heap.size rfl (L9.out.row 0 rfl) Try.underlying44 rfl infoFd ?_)
        refine (C5.out _).mono ?_
        rintro e w4 ⟨rfl, o4⟩
        have L4 := hide (L9.out.mono (K.eyeS _ _ _) o4)
        clear L3 L9 C5 o4
        go_wp2_with (refine wp_store_whole rfl 44 _ _ rfl w2.heap.size rfl (fdc (tkL (tkL l er 4) (tkE l er 4) (nmN l er 4)) (tkE (tkL l er 4) (tkE l er 4) (nmN l er 4))) rfl (L4.out.row 0 rfl) infoFd rfl (fdc_one _ _) ?_; rintro w9 h9
                     have L5 := hide (L4.out.store (K.eyeS _ _ _) 0 rfl _ h9)
                     clear h9)
        refine (L5.out.eBytes).mono ?_
        rintro e w6 ⟨ab, cb, rfl, rd, LA⟩
        have LA := hide LA
        have CV : (convert 26 9 (.slice ab (tkS (tkL l er 4) (tkE l er 4) (nmN l er 4)).length cb)).run Try.prog w6 = .ok (.string (Ssb.bstr (tkS (tkL l er 4) (tkE l er 4) (nmN l er 4)))) w6 := Ssb.run_bstr Try.underlying26 Try.underlying5 Try.underlying9 rfl rd
        clear L4 L5 rd
        go_wp2_with fail
        refine ⟨⟨i + 1, tkL (tkL l er 4) (tkE l er 4) (nmN l er 4), tkE (tkL l er 4) (tkE l er 4) (nmN l er 4), by omega, by omega, by simp, ⟨LA.out, H3.out.1, H3.out.2⟩⟩, by simp [intOf]; omega⟩
    · have HL := hide R.out.1
      have c0 := (R.out.1.row 0 rfl).cell (i := 0) rfl
      have c1 := (R.out.1.row 0 rfl).cell (i := 1) rfl
      have SZ : (Ssb.bstr l).size = l.length := bs_size l
      have T1 : Hid ((decide ((i : Int) < (m : Int)) = false ∧ decide (i < m) = false) ∨ (decide ((i : Int) < (m : Int)) = true ∧ decide (i < m) = true ∧ decide ((i : Int) < 30) = false)) := by
        by_cases hm : i < m
        · exact .inr ⟨by simp; omega, by simpa using hm, by simp; omega⟩
        · exact .inl ⟨by simp; omega, by simpa using hm⟩
      have q0 : (0 : Int) ≤ i := by omega
      clear hl R HZ
      by_cases he : er = 0
      · subst he
        by_cases hz : l.length = 0
        · have EE : endE l 0 = 0 := by unfold endE; simp [hz]
          have z1 : decide ((0 : Int) < ((Ssb.bstr l).size : Int)) = false := by rw [SZ]; exact decide_eq_false (by omega)
          have z2 : decide (((Ssb.bstr l).size : Int) > 0) = false := z1
          have z3 : decide (0 < (Ssb.bstr l).size) = false := by rw [SZ]; exact decide_eq_false (by omega)
          clear SZ
          rcases T1.out with ⟨t1, t1'⟩ | ⟨t1, t1', t2⟩
          all_goals
            clear T1
            go_wp2_with fail
            refine (AW.out _).mono ?_
            rintro e w3 ⟨rfl, o3⟩
            have L3 := hide (HL.out.mono (K.eyeS _ _ _) o3)
            clear HL o3 AW
            have C9 := hide L3.out.eEnd
            rw [EE] at C9
            go_wp2_with fail
            refine C9.out.mono ?_
            rintro e w4 ⟨rfl, L4⟩
            have O4 := hide L4.old
            clear L3 L4 C9
            go_wp2
            go_ret
            exact ⟨by simp, O4.out⟩
        · have EE : endE l 0 = 2 := by unfold endE; simp [hz]
          have z1 : decide ((0 : Int) < ((Ssb.bstr l).size : Int)) = true := by rw [SZ]; exact decide_eq_true (by omega)
          have z2 : decide (((Ssb.bstr l).size : Int) > 0) = true := z1
          have z3 : decide (0 < (Ssb.bstr l).size) = true := by rw [SZ]; exact decide_eq_true (by omega)
          clear SZ
          rcases T1.out with ⟨t1, t1'⟩ | ⟨t1, t1', t2⟩
          all_goals
            clear T1
            go_wp2_with fail
            refine (AW.out _).mono ?_
            rintro e w3 ⟨rfl, o3⟩
            have L3 := hide (HL.out.mono (K.eyeS _ _ _) o3)
            clear HL o3 AW
            have C9 := hide L3.out.eEnd
            rw [EE] at C9
            go_wp2_with fail
            refine C9.out.mono ?_
            rintro e w4 ⟨rfl, L4⟩
            have L4 := hide L4
            clear L3 C9
            have CA := hide L4.out.eSmall
            rw [nmN_bad l (by omega) 4] at CA
            go_wp2_with fail
            refine CA.out.mono ?_
            rintro e w5 ⟨rfl, L5⟩
            have O5 := hide L5.old
            clear L4 L5 CA
            go_wp2
            go_ret
            exact ⟨by simp, O5.out⟩
      · have EE : endE l er = er := by unfold endE; simp [he]
        have t0 : (er == 0) = false := by simpa using he
        clear SZ
        rcases T1.out with ⟨t1, t1'⟩ | ⟨t1, t1', t2⟩
        all_goals
          clear T1
          go_wp2_with fail
          refine (AW.out _).mono ?_
          rintro e w3 ⟨rfl, o3⟩
          have L3 := hide (HL.out.mono (K.eyeS _ _ _) o3)
          clear HL o3 AW
          have C9 := hide L3.out.eEnd
          rw [EE] at C9
          go_wp2_with fail
          refine C9.out.mono ?_
          rintro e w4 ⟨rfl, L4⟩
          have L4 := hide L4
          clear L3 C9
          have CA := hide L4.out.eSmall
          rw [nmN_bad l he 4] at CA
          go_wp2_with fail
          refine CA.out.mono ?_
          rintro e w5 ⟨rfl, L5⟩
          have O5 := hide L5.old
          clear L4 L5 CA
          go_wp2
          go_ret
          exact ⟨by simp, O5.out⟩
end Go.Proofs.Ytccphdngmhfmnaa
