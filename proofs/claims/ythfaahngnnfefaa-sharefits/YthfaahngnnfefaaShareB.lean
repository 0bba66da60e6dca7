/-
  Package share: firstPoints, Split.
-/
import Derived.Test.YthfaahngnnfefaaShare
namespace Go.Proofs.Ythfaahngnnfefaa
open Go.RowKit M Pm
set_option linter.unusedVariables false

theorem ptsTo_put (c : List Nat) {n k : Nat} (h : k < n) : (ptsTo c k ++ List.replicate (n - k) (0, 0)).set k (((k + 1 : Nat) : Int), evN c (k + 1)) = ptsTo c (k + 1) ++ List.replicate (n - (k + 1)) (0, 0) := by
  obtain ⟨r, hr⟩ : ∃ r, n - k = r + 1 := ⟨n - k - 1, by omega⟩
  rw [hr, show n - (k + 1) = r by omega, ptsTo_step, List.replicate_succ, List.set_append_right _ _ (by rw [ptsTo_length]; omega), ptsTo_length, Nat.sub_self]
  simp

set_option maxHeartbeats 1000000 in
theorem firstPoints_any (c : List Nat) (m : Nat) (a : Option Addr) (cap n : Nat) (w : World) (hN : Nums w a m cap c) (hm : m ≤ 1048576) (hn : n ≤ 64) :
    Calls Try.prog 23 #[.int .i64 (n : Nat), .func (.func 24) #[.slice a m cap] #[]] w fun e w' => e = .returned (.slice (some ⟨w.heap.size, 0, none⟩) n n) ∧ Row w' w.heap.size 30 (cellsP (ptsTo c n)) ∧ Old w w' := by
  have HN := hide hN
  have HI : Hid ((Try.prog.info? 30).map (·.size) = some 2) := by show _ = _; kernel_rfl
  have hmk := make_pts (P := Try.prog) (t := 24) (e := 30) Try.underlying24 (by kernel_rfl) n (by omega)
  clear hN
  go_enter Try.func23, Try.ntmps23
  go_wp2_with fail
  go_loopw [11] (fun vi wr => ∃ k : Nat, k ≤ n ∧ vi = .int .i64 (k : Nat) ∧ Hid (Row wr w.heap.size 30 (cellsP (ptsTo c k ++ List.replicate (n - k) (0, 0)))) ∧ Old w wr) (fun vi _ => (n - intOf vi).toNat)
  case atStart => exact ⟨0, by omega, rfl, Row.new _ _ _, Old.of_alloc _ _⟩
  case round =>
    clear hmk
    obtain ⟨k, hk, rfl, R, hol⟩ := hrel
    by_cases hkn : k = n
    · subst hkn
      have hd : decide ((k : Int) < k) = false := decide_eq_false (by omega)
      go_wp2
      go_ret
      have R2 := R.out
      rw [Nat.sub_self, List.replicate_zero, List.append_nil] at R2
      exact ⟨rfl, R2, hol⟩
    · have hkl : k < n := by omega
      have k0 : (0 : Int) ≤ k := by omega
      have k1 : (k : Int) < n := by omega
      go_wp2_with fail
      refine (point_any c m a cap (k + 1) wr (HN.out.mono hol) hm (by omega)).mono ?_
      rintro e w1 ⟨rfl, o1⟩
      have R1 := hide (R.out.mono o1)
      have O1 := hol.trans o1
      have L1 : Hid (k < (ptsTo c k ++ List.replicate (n - k) (0, 0)).length) := by show _ < _; rw [List.length_append, ptsTo_length, List.length_replicate]; omega
      clear R hol o1
      go_wp2_with (refine wp_store_pt rfl 30 _ _ rfl w.heap.size k ((k + 1 : Nat) : Int) (evN c (k + 1)) rfl rfl R1.out L1.out HI.out ?_; rintro w2 R2 G2; rw [ptsTo_put c hkl] at R2; have R3 := hide R2; have O2 : Old w w2 := O1.grown G2 (Nat.le_refl _); clear R2 G2)
      go_roundw
      case rel => exact ⟨k + 1, by omega, by go_num, R3, O2⟩
      case measure => simp [intOf]; omega

set_option maxHeartbeats 2000000 in
theorem split_any : SplitC := by
  intro secret enough n cs m a cap w hN hm hs he hn
  have HN := hide hN
  have HE : Hid (splitErr secret enough n cs = if n < 1 ∨ 64 < n ∨ enough < 1 ∨ n < enough ∨ (m : Int) ≠ enough - 1 then 1 else if 2305843009213693951 ≤ secret then 4 else numE (anyBig cs m)) := by show _ = _; unfold splitErr; rw [hN.1]
  clear hN
  obtain ⟨he1, he2⟩ := he
  obtain ⟨hn1, hn2⟩ := hn
  by_cases h1 : n < 1 ∨ 64 < n
  · have E : splitErr secret enough n cs = 1 := by rw [HE.out, if_pos (by omega)]
    have B1 := withinB_no (m := 64) h1
    rw [E]
    clear h1
    go_enter Try.func9, Try.ntmps9
    go_wp2_with fail
    refine (within_any n 64 _).mono ?_
    rintro e w' ⟨rfl, rfl⟩
    rw [B1]
    go_wp2
    go_ret2
    exact ⟨Old.refl _, none, 0, 0, rfl, Nat.le_refl _, fun _ => rfl, fun h => by cases h⟩
  · have B1 := withinB_yes (z := n) (m := 64) (by omega) (by omega)
    by_cases h2 : enough < 1 ∨ n < enough
    · have E : splitErr secret enough n cs = 1 := by rw [HE.out, if_pos (by omega)]
      have B2 := withinB_no h2
      rw [E]
      clear h1 h2
      go_enter Try.func9, Try.ntmps9
      go_wp2_with fail
      refine (within_any n 64 _).mono ?_
      rintro e w' ⟨rfl, rfl⟩
      rw [B1]
      go_wp2_with fail
      refine (within_any enough n _).mono ?_
      rintro e w' ⟨rfl, rfl⟩
      rw [B2]
      go_wp2
      go_ret2
      exact ⟨Old.refl _, none, 0, 0, rfl, Nat.le_refl _, fun _ => rfl, fun h => by cases h⟩
    · have B2 := withinB_yes (z := enough) (m := n) (by omega) (by omega)
      obtain ⟨N, rfl⟩ : ∃ N : Nat, n = N := ⟨n.toNat, by omega⟩
      obtain ⟨K, rfl⟩ : ∃ K : Nat, enough = ((K + 1 : Nat) : Int) := ⟨enough.toNat - 1, by omega⟩
      replace B2 : withinB ((K : Int) + 1) (N : Int) = true := B2
      have hN64 : N ≤ 64 := by omega
      have hN1 : 1 ≤ N := by omega
      have hK64 : K < 64 := by omega
      by_cases h3 : m = K
      · have d3 : ((m : Int) != (K : Int)) = false := by simp [h3]
        have HE2 : Hid (splitErr secret ((K + 1 : Nat) : Int) (N : Int) cs = if 2305843009213693951 ≤ secret then 4 else numE (anyBig cs m)) := by show _ = _; rw [HE.out, if_neg (by omega)]
        have hm64 : m ≤ 64 := by omega
        clear HE h1 h2 h3
        by_cases h4 : 2305843009213693951 ≤ secret
        · have E : splitErr secret ((K + 1 : Nat) : Int) (N : Int) cs = 4 := by rw [HE2.out, if_pos h4]
          have d4 : decide ((2305843009213693951 : Int) ≤ secret) = true := decide_eq_true (by omega)
          rw [E]
          clear h4
          go_enter Try.func9, Try.ntmps9
          go_wp2_with fail
          refine (within_any _ 64 _).mono ?_
          rintro e w' ⟨rfl, rfl⟩
          rw [B1]
          go_wp2_with fail
          refine (within_any _ _ _).mono ?_
          rintro e w' ⟨rfl, rfl⟩
          rw [B2]
          go_wp2
          go_ret2
          exact ⟨Old.refl _, none, 0, 0, rfl, Nat.le_refl _, fun _ => rfl, fun h => by cases h⟩
        · have E : splitErr secret ((K + 1 : Nat) : Int) (N : Int) cs = numE (anyBig cs m) := by rw [HE2.out, if_neg h4]
          have d4 : decide ((2305843009213693951 : Int) ≤ secret) = false := decide_eq_false (by omega)
          have ls : secret < 2305843009213693951 := by omega
          rw [E]
          clear h4
          by_cases h5 : anyBig cs m = true
          · have e5 : numE (anyBig cs m) = 4 := by rw [h5]; rfl
            rw [e5]
            go_enter Try.func9, Try.ntmps9
            go_wp2_with fail
            refine (within_any _ 64 _).mono ?_
            rintro e w' ⟨rfl, rfl⟩
            rw [B1]
            go_wp2_with fail
            refine (within_any _ _ _).mono ?_
            rintro e w' ⟨rfl, rfl⟩
            rw [B2]
            go_wp2_with fail
            refine (allBelowP_any cs m a cap _ HN.out (by omega)).mono ?_
            rintro e w' ⟨rfl, rfl⟩
            rw [h5]
            go_wp2
            go_ret2
            exact ⟨Old.refl _, none, 0, 0, rfl, Nat.le_refl _, fun _ => rfl, fun h => by cases h⟩
          · have h6 : anyBig cs m = false := by simpa using h5
            have e5 : numE (anyBig cs m) = 0 := by rw [h6]; rfl
            rw [e5]
            clear h5
            have hmf : ∀ (fn : Fn) (first cap : Array Value) (w : World), (Instr.makeFunc fn first cap).run Try.prog w = .ok (.func fn first cap) w := fun _ _ _ _ => rfl
            have O0 : Hid (Owns (w.alloc (.cells #[.int .u64 (secret : Nat)] 22)) w.heap.size 22 .u64 (.slice (some ⟨w.heap.size, 0, none⟩) 1 1) [secret]) :=
              World.ownsRow_lit w #[.int .u64 (secret : Nat)] 1 (Nat.le_refl _) (by unfold maxLen; omega) rfl
            have N0 := hide (HN.out.mono (Old.of_alloc w (.cells #[.int .u64 (secret : Nat)] 22)))
            have HL : Hid ((secret :: cs).length = m + 1) := by show _ = _; rw [List.length_cons, HN.out.1]
            have HB : Hid (∀ y ∈ secret :: cs, y < 18446744073709551616) := fun y hy => by
              rcases List.mem_cons.1 hy with rfl | hy
              · exact hs
              · exact HN.out.2.2.1 y hy
            go_enter Try.func9, Try.ntmps9
            go_wp2_with fail
            refine (within_any _ 64 _).mono ?_
            rintro e w' ⟨rfl, rfl⟩
            rw [B1]
            go_wp2_with fail
            refine (within_any _ _ _).mono ?_
            rintro e w' ⟨rfl, rfl⟩
            rw [B2]
            go_wp2_with fail
            refine (allBelowP_any cs m a cap _ HN.out (by omega)).mono ?_
            rintro e w' ⟨rfl, rfl⟩
            rw [h6]
            go_wp2_with (refine wp_appendN2 rfl _ _ 50 23 rfl w'.heap.size 22 22 .u64 8 Try.underlying50 Try.underlying23 (by kernel_rfl) (by omega) _ [secret] rfl O0.out a m cap cs rfl N0.out.1 N0.out.2.2.2 (by simp) (by omega) (Old.of_alloc w' _).size ?_; rintro v2 w2 ow2 gr2)
            all_goals
              have ow3 : Owns w2 w'.heap.size 22 .u64 v2 (secret :: cs) := ow2
              obtain ⟨r, cap2, hv2, hc2, rd2⟩ := ow3.rd
              rw [HL.out] at hv2 hc2
              subst hv2
              have O2 : Old w' w2 := (Old.of_alloc w' _).grown gr2 (Nat.le_refl _)
              have N2 : Hid (Nums w2 r (m + 1) cap2 (secret :: cs)) := ⟨HL.out, hc2, HB.out, rd2⟩
              clear ow2 ow3 gr2 O0 N0 rd2
              go_wp2_with fail
              refine (firstPoints_any (secret :: cs) (m + 1) r cap2 N w2 N2.out (by omega) hN64).mono ?_
              rintro e w3 ⟨rfl, R3, o3⟩
              have FR : Hid (FreshP w'.heap.size w3 (some ⟨w2.heap.size, 0, none⟩) (ptsTo (secret :: cs) N)) := ⟨_, _, [], rfl, O2.size, by rw [List.append_nil]; exact R3⟩
              clear R3
              go_wp2
              go_ret2
              exact ⟨O2.trans o3, _, N, N, rfl, Nat.le_refl _, fun h => absurd rfl h, fun _ => ⟨rfl, FR.out⟩⟩
      · have d3 : ((m : Int) != (K : Int)) = true := by rw [bne_iff_ne]; omega
        have E : splitErr secret ((K + 1 : Nat) : Int) (N : Int) cs = 1 := by rw [HE.out, if_pos (by omega)]
        rw [E]
        clear h1 h2 h3
        go_enter Try.func9, Try.ntmps9
        go_wp2_with fail
        refine (within_any _ 64 _).mono ?_
        rintro e w' ⟨rfl, rfl⟩
        rw [B1]
        go_wp2_with fail
        refine (within_any _ _ _).mono ?_
        rintro e w' ⟨rfl, rfl⟩
        rw [B2]
        go_wp2
        go_ret2
        exact ⟨Old.refl _, none, 0, 0, rfl, Nat.le_refl _, fun _ => rfl, fun h => by cases h⟩
end Go.Proofs.Ythfaahngnnfefaa
