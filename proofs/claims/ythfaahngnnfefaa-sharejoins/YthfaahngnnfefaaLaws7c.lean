/-
  The walk of layer 7's statement ShareBack, if the layer's calls are what they owe.
-/
import Derived.Test.YthfaahngnnfefaaLaws7b
import Derived.Test.YthfaahngnnfefaaFew
import Derived.Deep.DeepCutAuto
namespace Go.Proofs.Ythfaahngnnfefaa
open Go.RowKit M Pm
set_option linter.unusedVariables false

theorem Nums.take {w : World} {a : Option Addr} {n cap : Nat} {l : List Nat} (h : Nums w a n cap l) {k : Nat} (hk : k ≤ n) : Nums w a k cap (l.take k) :=
  ⟨by rw [List.length_take, h.1]; omega, by have := h.2.1; omega, fun y hy => h.2.2.1 y (List.mem_of_mem_take hy), rd_take64 h.2.2.2 k⟩

set_option maxHeartbeats 8000000 in
set_option maxRecDepth 100000 in
theorem walkK_ShareBack (K : ShareK) (v0 v1 v2 v3 : Value) (w : World) (w0 : IsInt .u64 v0) (w1 : IsNums .u64 18446744073709551616 17592186043904 w v1) (w2 : IsInt .u8 v2) (w3 : IsInt .u8 v3) :
    Calls Try.prog 6 #[v0, v1, v2, v3] w fun e w' => e = .returned (.bool true) ∧ Old w w' := by
  obtain ⟨secret, hsec, rfl⟩ := isU64' w0
  obtain ⟨a, m0, cap, cs0, rfl, hN0, hM⟩ := isNumsOf w1
  obtain ⟨mo, hmo, rfl⟩ := isU8' w2
  obtain ⟨fr, hfr, rfl⟩ := isU8' w3
  have KK := hide K
  have HN0 := hide hN0
  have hcap := hN0.2.1
  clear w0 w1 w2 w3 K hN0 hM
  go_enter Try.func6, Try.ntmps6
  go_upto_if 23 with fail
  go_cut [1] (fun v wc => wc = w ∧ ∃ (m : Nat) (cs : List Nat), v = .slice a m cap ∧ Hid (Nums w a m cap cs) ∧ m ≤ 6)
  case first =>
    by_cases h : 6 < m0
    · have d : decide ((6 : Int) < m0) = true := decide_eq_true (by omega)
      go_wp2_with fail
      go_meet
      exact ⟨rfl, 6, cs0.take 6, rfl, HN0.out.take (by omega), Nat.le_refl _⟩
    · have d : decide ((6 : Int) < m0) = false := decide_eq_false (by omega)
      go_wp2_with fail
      go_meet
      exact ⟨rfl, m0, cs0, rfl, HN0.out, by omega⟩
  case rest =>
    obtain ⟨rfl, m, cs, rfl, N, hm⟩ := hcut
    have HL : Hid (cs.length = m) := N.out.1
    obtain ⟨q, hq, hq6⟩ : ∃ q, q = mo % 6 ∧ q < 6 := ⟨_, rfl, by omega⟩
    obtain ⟨n, hn⟩ : ∃ n, n = m + 1 + q := ⟨_, rfl⟩
    have n1 : 1 ≤ n := by omega
    have n12 : n ≤ 12 := by omega
    have mn : m + 1 ≤ n := by omega
    have SE : Hid (splitErr secret ((m : Int) + 1) n cs = 0 ∨ splitErr secret ((m : Int) + 1) n cs = 4) := by
      show _ ∨ _
      unfold splitErr
      rw [HL.out, if_neg (by omega)]
      split
      · exact .inr rfl
      · rcases numE_cases (anyBig cs m) with ⟨h, _⟩ | ⟨h, _⟩
        · exact .inl h
        · exact .inr h
    go_wp2_with fail
    rw [show ((m : Int) + 1 + (mo : Int) % 6) = (n : Int) by omega]
    clear hq hn
    refine (KK.out.split secret ((m : Int) + 1) n cs m a cap _ N.out (by omega) hsec ⟨by omega, by omega⟩ ⟨by omega, by omega⟩).mono ?_
    rintro e w1 ⟨o1, r, k, cr, rfl, hkc, hk0, hk1⟩
    have K0 := hide hk0
    have K1 := hide hk1
    clear hk0 hk1 N
    go_wp2_with fail
    refine (awake7 KK.out _).mono ?_
    rintro e w2 ⟨rfl, o2⟩
    have O2 := o1.trans o2
    rcases SE.out with h0 | h4
    · rw [h0]
      obtain ⟨hkn, FP⟩ := K1.out h0
      obtain rfl : k = n := by omega
      have SO := hide (split_ok h0)
      have HF := hide ((FP.mono o2).pts)
      have E0 := hide (OwnsP.empty w2 w2.heap.size 30 (Nat.le_refl _))
      have s2 := o2.size
      clear K0 K1 FP SE o1 o2 h0 hkn
      go_wp2_with fail
      go_loopw [12, 13] (fun vo vi wr => ∃ j : Nat, j ≤ k ∧ vi = .int .i64 (j : Nat) ∧ OwnsP wr w2.heap.size 30 vo (turned (secret :: cs) k fr j) ∧ Old w2 wr) (fun _ vi _ => (k - intOf vi).toNat)
      case atStart => exact ⟨0, by omega, rfl, E0.out, Old.of_alloc _ _⟩
      case round =>
        clear E0
        obtain ⟨j, hj, rfl, ow, hol⟩ := hrel
        by_cases hjk : j = k
        · subst hjk
          have de : decide ((j : Int) < j) = false := decide_eq_false (by omega)
          obtain ⟨_, _, _, _, _, sl, _⟩ := SO.out
          have T0 : 0 < j := by omega
          have TS := turned_sound (secret :: cs) (f := fr) T0 (by omega) T0 (Nat.le_refl j)
          have TO := turned_on (secret :: cs) (f := fr) T0 j
          have TL := turned_length (secret :: cs) j fr j
          have TB : ∀ p ∈ turned (secret :: cs) j fr j, -9223372036854775808 ≤ p.1 ∧ p.1 ≤ 9223372036854775807 ∧ p.2 < 18446744073709551616 := by
            intro p hp
            obtain ⟨i, hi, rfl⟩ := List.getElem_of_mem hp
            rw [TL] at hi
            have e := turned_get (secret :: cs) (f := fr) T0 hi
            rw [List.getElem?_eq_getElem (by rw [TL]; exact hi)] at e
            rw [Option.some.inj e]
            have h1 := Nat.mod_lt (j - 1 - i + fr) T0
            have h2 := evN_lt (secret :: cs) ((j - 1 - i + fr) % j + 1)
            refine ⟨?_, ?_, ?_⟩
            · show (-9223372036854775808 : Int) ≤ (((j - 1 - i + fr) % j + 1 : Nat) : Int)
              generalize (j - 1 - i + fr) % j = z at *
              omega
            · show ((((j - 1 - i + fr) % j + 1 : Nat) : Int)) ≤ 9223372036854775807
              generalize (j - 1 - i + fr) % j = z at *
              omega
            · show evN (secret :: cs) ((j - 1 - i + fr) % j + 1) < 18446744073709551616
              omega
          have J1 : Hid (joinErr ((m : Int) + 1) (turned (secret :: cs) j fr j) = 0) := join_err (by omega) (by rw [TL]; omega) TS
          have cl : (secret :: cs).length ≤ m + 1 := by rw [List.length_cons, HL.out]; omega
          have em : ((m : Int) + 1).toNat = m + 1 := by omega
          have J2 : Hid (joinN ((m : Int) + 1) (turned (secret :: cs) j fr j) = secret) := by
            show _ = _
            unfold joinN
            rw [if_pos J1.out, em, on_lag TS (by omega) (by rw [TL]; omega) cl TO, ev_head secret cs sl]
          have J3 : Hid (fitsB ((m : Int) + 1) (turned (secret :: cs) j fr j) = true) := by
            show _ = _
            unfold fitsB
            rw [if_pos J1.out, em]
            exact on_fits TS (by omega) (by rw [TL]; omega) cl TO
          have J4 : Hid (joinErr ((m : Int) + 1) ((turned (secret :: cs) j fr j).take m) = if m = 0 then 1 else 12) := by
            show _ = _
            have l2 : ((turned (secret :: cs) j fr j).take m).length = m := by rw [List.length_take, TL]; omega
            unfold joinErr
            rw [if_neg (by omega), l2]
            by_cases h0 : m = 0
            · have : errOf ((turned (secret :: cs) j fr j).take m) = 1 := by unfold errOf; rw [l2, if_pos (.inl h0)]
              rw [this, if_pos h0]; rfl
            · rw [sound_err (TS.take (by omega) (by rw [TL]; omega)), if_neg (by simp), if_pos (by omega), if_neg h0]
          obtain ⟨ra, ca, rfl, PT⟩ := ow.pts TB
          rw [TL] at PT ⊢
          have NP := hide PT
          have hca := PT.2.1
          clear ow TS TO TB PT em cl sl
          revert NP J1 J2 J3 J4
          generalize turned (secret :: cs) j fr j = tp
          intro J1 J2 J3 J4 NP
          go_wp2_with fail
          refine (KK.out.join ((m : Int) + 1) tp j _ _ _ NP.out (by omega) ⟨by omega, by omega⟩).mono ?_
          rintro e w4 ⟨rfl, o4⟩
          rw [J1.out, J2.out]
          have NP4 := hide (NP.out.mono o4)
          go_wp2_with fail
          refine (KK.out.fits ((m : Int) + 1) tp j _ _ _ NP4.out (by omega) ⟨by omega, by omega⟩).mono ?_
          rintro e w5 ⟨rfl, o5⟩
          rw [J1.out, J3.out]
          have NP5 := hide ((NP4.out.mono o5).take (k := m) (by omega))
          have O5 := ((O2.trans hol).trans o4).trans o5
          clear NP NP4 o4 o5
          go_wp2_with fail
          refine (KK.out.join ((m : Int) + 1) (tp.take m) m _ _ _ NP5.out (by omega) ⟨by omega, by omega⟩).mono ?_
          rintro e w6 ⟨rfl, o6⟩
          rw [J4.out]
          by_cases h0 : m = 0
          · subst h0
            rw [if_pos rfl]
            go_wp2
            go_ret
            exact ⟨by simp, O5.trans o6⟩
          · rw [if_neg h0]
            have dm : ((m : Int) == 0) = false := by rw [beq_eq_false_iff_ne]; omega
            go_wp2
            go_ret
            exact ⟨by simp, O5.trans o6⟩
        · have hjl : j < k := by omega
          obtain ⟨t, ht⟩ : ∃ t, t = (k - 1 - j + fr) % k := ⟨_, rfl⟩
          have tl : t < k := by rw [ht]; exact Nat.mod_lt _ (by omega)
          obtain ⟨b, off, rfl, hc1, hc2⟩ := (HF.out.mono hol) t _ (ptsTo_get (secret :: cs) tl)
          have et : (((k : Int) - 1 - j + fr) % k) = (t : Int) := by
            rw [ht, Int.natCast_emod]
            congr 1
            omega
          have et2 : ((((k - 1 - j : Nat) : Int) + fr) % k) = (t : Int) := by
            rw [← et]
            congr 1
            omega
          have t0 : (0 : Int) ≤ t := by omega
          have t1 : (t : Int) < k := by omega
          have HT := hide ht
          clear ht
          have HN2 : Hid ((turned (secret :: cs) k fr j).length < 1099511627776) := by show _ < _; rw [turned_length]; omega
          have SL := hide hol.size
          go_wp2_with (refine wp_appendP rfl _ _ 24 rfl w2.heap.size 30 Try.underlying24 (by kernel_rfl) _ (turned (secret :: cs) k fr j) rfl (ow.mono (Old.of_alloc _ _)) _ _ (((t + 1 : Nat) : Int), evN (secret :: cs) (t + 1)) rfl (Row.new _ 30 [.int .i64 ((t + 1 : Nat) : Int), .int .u64 (evN (secret :: cs) (t + 1) : Nat)]) HN2.out (Nat.le_trans SL.out (Old.of_alloc _ _).size) ?_; rintro v2 w3 ow2 gr2)
          go_roundw
          case rel =>
            refine ⟨j + 1, by omega, by go_num, ?_, (hol.alloc _).grown' gr2 fun g hg => (ow.lt hg).1⟩
            rw [turned_step, ← HT.out, List.getD_eq_getElem?_getD, ptsTo_get (secret :: cs) tl, Option.getD_some]
            exact ow2
          case measure => simp [intOf]; omega
    · have hd : (((splitErr secret ((m : Int) + 1) n cs : Nat) : Int) != 0) = true := by rw [bne_iff_ne]; omega
      rw [h4]
      go_wp2_with fail
      refine (awake7 KK.out _).mono ?_
      rintro e w3 ⟨rfl, o3⟩
      go_wp2
      go_ret
      exact ⟨by simp, O2.trans o3⟩
end Go.Proofs.Ythfaahngnnfefaa
