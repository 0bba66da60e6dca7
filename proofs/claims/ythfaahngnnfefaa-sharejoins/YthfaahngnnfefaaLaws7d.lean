/-
  The walk of layer 7's statement ShareOnce, if the layer's calls are what they owe.
-/
import Derived.Test.YthfaahngnnfefaaLaws7c
import Derived.Test.YthfaahngnnfefaaSame
namespace Go.Proofs.Ythfaahngnnfefaa
open Go.RowKit M Pm
set_option linter.unusedVariables false

theorem cellsP_set : ∀ (ps : List Pt) (k : Nat) (z : Int) (v y : Nat), ps[k]? = some (z, v) → (cellsP ps).set (k * 2 + 1) (.int .u64 (y : Nat)) = cellsP (ps.set k (z, y))
  | [], k, z, v, y, h => by simp at h
  | p :: r, 0, z, v, y, h => by
    simp at h; subst h
    rfl
  | p :: r, k + 1, z, v, y, h => by
    have ih := cellsP_set r k z v y (by simpa using h)
    have e : ∀ q s, cellsP (q :: s) = .int .i64 q.1 :: .int .u64 (q.2 : Nat) :: cellsP s := fun _ _ => rfl
    rw [e, show (k + 1) * 2 + 1 = (k * 2 + 1) + 1 + 1 by omega]
    simp only [List.set_cons_succ, e, ih]
/-- One point's value written anew. -/
def bent (c : List Nat) (n k y : Nat) : List Pt := (ptsTo c n).set k (((k + 1 : Nat) : Int), y)
theorem bent_length (c : List Nat) (n k y : Nat) : (bent c n k y).length = n := by simp [bent, ptsTo_length]
theorem bent_same (c : List Nat) {n k y : Nat} (h : k < n) : at1 (bent c n k y) k = ((k + 1 : Nat) : Int) ∧ at2 (bent c n k y) k = y := at_of (by
  unfold bent
  rw [List.getElem?_set_self (by rw [ptsTo_length]; exact h)])
theorem bent_other (c : List Nat) {n k y i : Nat} (hi : i < n) (h : i ≠ k) : at1 (bent c n k y) i = ((i + 1 : Nat) : Int) ∧ at2 (bent c n k y) i = evN c (i + 1) := at_of (by
  unfold bent
  rw [List.getElem?_set_ne (Ne.symm h)]
  exact ptsTo_get c hi)
theorem bent_at1 (c : List Nat) {n k y i : Nat} (hi : i < n) : at1 (bent c n k y) i = ((i + 1 : Nat) : Int) := by
  by_cases h : i = k
  · subst h; exact (bent_same c hi).1
  · exact (bent_other c hi h).1
theorem bent_sound (c : List Nat) {n k y : Nat} (h1 : 1 ≤ n) (h64 : n ≤ 64) (hy : y < 2305843009213693951) : SoundP (bent c n k y) := by
  refine ⟨by rw [bent_length]; exact h1, by rw [bent_length]; exact h64, fun i j hi hj hij => ?_, fun i hi => ?_⟩
  · rw [bent_length] at hi hj
    rw [bent_at1 c hi, bent_at1 c hj]; omega
  · rw [bent_length] at hi
    refine ⟨by rw [bent_at1 c hi]; omega, by rw [bent_at1 c hi]; omega, ?_⟩
    by_cases h : i = k
    · subst h; rw [(bent_same c hi).2]; exact hy
    · rw [(bent_other c hi h).2]; exact evN_lt _ _
theorem bent_fits (c : List Nat) {m k y : Nat} (hc : c.length ≤ m + 1) (hk : k < m + 2) (h64 : m + 2 ≤ 64) (hy : y < 2305843009213693951) : fitsB ((m : Int) + 1) (bent c (m + 2) k y) = decide (evN c (k + 1) = y) := by
  have S := bent_sound c (k := k) (y := y) (n := m + 2) (by omega) h64 hy
  have L := bent_length c (m + 2) k y
  unfold fitsB
  rw [if_pos (join_err (by omega) (by rw [L]; omega) S), show ((m : Int) + 1).toNat = m + 1 by omega]
  rw [fits_bent (s := c) (k := k) S (by omega) (by rw [L]) hc (by rw [L]; exact hk) (fun i hi hik => by
    rw [L] at hi
    rw [(bent_other c hi hik).1, (bent_other c hi hik).2]
    rfl)]
  rw [(bent_same c hk).1, (bent_same c hk).2]
  rfl
theorem bent_bounds (c : List Nat) {n k y : Nat} (hn : n ≤ 64) (hk : k < n) (hy : y < 2305843009213693951) : ∀ p ∈ bent c n k y, -9223372036854775808 ≤ p.1 ∧ p.1 ≤ 9223372036854775807 ∧ p.2 < 18446744073709551616 := by
  intro p hp
  rcases List.mem_or_eq_of_mem_set hp with h | rfl
  · exact ptsTo_bounds c hn p h
  · refine ⟨?_, ?_, ?_⟩
    · show (-9223372036854775808 : Int) ≤ ((k + 1 : Nat) : Int); omega
    · show ((k + 1 : Nat) : Int) ≤ 9223372036854775807; omega
    · show y < 18446744073709551616; omega
theorem only_rest {c d : List Nat} {secret m : Nat} (hc : c.length = m) (hd : d.length = m) (h6 : m ≤ 62) (bc : ∀ y ∈ c, y < 2305843009213693951) (bd : ∀ y ∈ d, y < 2305843009213693951) (O : On (secret :: c) (ptsTo (secret :: d) m)) : c = d := by
  refine same_rest (secret := secret) (xs := (List.range m).map (· + 1)) (by omega) (by simp; omega) bc bd ?_ ?_ ?_
  · refine List.nodup_cons.2 ⟨by simp, ?_⟩
    rw [List.nodup_iff_pairwise_ne, List.pairwise_map]
    refine List.Pairwise.imp ?_ (List.nodup_iff_pairwise_ne.1 (List.nodup_range (n := m)))
    intro a b hne; omega
  · intro x hx
    obtain ⟨i, hi, rfl⟩ := List.mem_map.1 hx
    have := List.mem_range.1 hi
    omega
  · intro x hx
    obtain ⟨i, hi, rfl⟩ := List.mem_map.1 hx
    have hi' := List.mem_range.1 hi
    have := O.all i (by rw [ptsTo_length]; exact hi')
    rw [(ptsTo_at _ hi').1, (ptsTo_at _ hi').2] at this
    exact this

set_option maxHeartbeats 8000000 in
set_option maxRecDepth 100000 in
theorem walkK_ShareOnce (K : ShareK) (v0 v1 v2 v3 : Value) (w : World) (w0 : IsInt .u64 v0) (w1 : IsNums .u64 18446744073709551616 17592186043904 w v1) (w2 : IsInt .u8 v2) (w3 : IsInt .u64 v3) :
    Calls Try.prog 8 #[v0, v1, v2, v3] w fun e w' => e = .returned (.bool true) ∧ Old w w' := by
  obtain ⟨secret, hsec, rfl⟩ := isU64' w0
  obtain ⟨a, m0, cap, cs0, rfl, hN0, hM⟩ := isNumsOf w1
  obtain ⟨wh, hwh, rfl⟩ := isU8' w2
  obtain ⟨ot, hot, rfl⟩ := isU64' w3
  have KK := hide K
  have HN0 := hide hN0
  have hcap := hN0.2.1
  clear w0 w1 w2 w3 K hN0 hM
  go_enter Try.func8, Try.ntmps8
  go_upto_if 20 with fail
  go_cut [1] (fun v wc => wc = w ∧ ∃ (m : Nat) (cs : List Nat), v = .slice a m cap ∧ Hid (Nums w a m cap cs) ∧ m ≤ 6)
  case first =>
    by_cases h : 6 < m0
    · have d : decide ((6 : Int) < m0) = true := decide_eq_true (by omega)
      go_wp2_with fail
      go_meet
      exact ⟨rfl, 6, cs0.take 6, rfl, HN0.out.take (by omega), Nat.le_refl _⟩
    · have d : decide ((6 : Int) < m0) = false := decide_eq_false (by omega)
      go_wp2_with fail
      go_meet
      exact ⟨rfl, m0, cs0, rfl, HN0.out, by omega⟩
  case rest =>
    obtain ⟨rfl, m, cs, rfl, N, hm⟩ := hcut
    have HL : Hid (cs.length = m) := N.out.1
    have N0 := hide N.out
    go_wp2_with fail
    refine (KK.out.split secret ((m : Int) + 1) ((m : Int) + 1 + 1) cs m a cap _ N.out (by omega) hsec ⟨by omega, by omega⟩ ⟨by omega, by omega⟩).mono ?_
    rintro e w1 ⟨o1, r, k, cr, rfl, hkc, hk0, hk1⟩
    have K0 := hide hk0
    have K1 := hide hk1
    clear hk0 hk1
    go_wp2_with fail
    refine (awake7 KK.out _).mono ?_
    rintro e w2 ⟨rfl, o2⟩
    have O2 := o1.trans o2
    by_cases h0 : splitErr secret ((m : Int) + 1) ((m : Int) + 1 + 1) cs = 0
    · rw [h0]
      obtain ⟨hkn, FP⟩ := K1.out h0
      obtain rfl : k = m + 2 := by omega
      have SO := hide (split_ok h0)
      have FP2 := FP.mono o2
      obtain ⟨g, t, sp, rfl, hg, R2⟩ := FP2
      have N2 := hide (N.out.mono O2)
      clear K0 K1 FP o1 o2 h0 hkn N
      have PT2 := hide ((PtsOf.of_fresh (base := wc.heap.size) ⟨g, t, sp, rfl, hg, R2⟩ (by omega) hkc).take (k := m) (by omega))
      rw [ptsTo_take _ (by omega)] at PT2
      have OE : Hid (otherErr secret ((m : Int) + 1) (ptsTo (secret :: cs) m) = 0) := other_err (by omega) (by omega) (by rw [ptsTo_length]; omega) SO.out.2.2.2.2.2.1 (fun h => ptsTo_sound _ (by rw [ptsTo_length] at h; omega) (by omega))
      go_wp2_with fail
      refine (KK.out.other secret ((m : Int) + 1) (ptsTo (secret :: cs) m) m _ _ _ PT2.out (by omega) hsec ⟨by omega, by omega⟩).mono ?_
      rintro e w3 ⟨o3, c, rc, kc, cc, rfl, hcc, _, ho⟩
      obtain ⟨hk1, hl1, hb1, on1, rd1, fre⟩ := ho OE.out
      obtain rfl : kc = m := by omega
      have hcc2 := only_rest hl1 HL.out (by omega) hb1 SO.out.2.2.2.2.2.2 on1
      subst hcc2
      rw [OE.out]
      have R3 := R2.mono o3
      have N3 := hide (N2.out.mono o3)
      have O3 := O2.trans o3
      have RC := hide rd1
      have gl := R2.lt
      have FRE : Hid (∀ x, 0 < (nums .u64 c).length → rc = some x → x.block ≠ g) := fun x h1 h2 => by
        have := fre x (by rw [nums_length, HL.out] at h1; exact h1) h2
        omega
      clear fre ho hk1 hb1 on1 rd1 R2 N2 O2 o3 PT2 OE hl1
      obtain ⟨kk, hkk⟩ : ∃ kk, kk = wh % (kc + 2) := ⟨_, rfl⟩
      have kl : kk < kc + 2 := by rw [hkk]; exact Nat.mod_lt _ (by omega)
      have et : ((wh : Int) % ((kc : Int) + 1 + 1)) = (kk : Int) := by
        rw [hkk, Int.natCast_emod]
        congr 1
      have k0 : (0 : Int) ≤ kk := by omega
      have k1 : (kk : Int) < (kc : Int) + 2 := by omega
      clear hkk
      have GP := ptsTo_get (secret :: c) kl
      have hcv : w3.cell? ⟨g, kk * 2 + 1, none⟩ = some (.int .u64 (evN (secret :: c) (kk + 1) : Nat)) := R3.cell (by
        have := (cellsP_get _ _ _ GP).2
        rw [List.getElem?_append_left (List.getElem?_eq_some_iff.1 this).1]; exact this)
      have hfv := R3.free (kk * 2 + 1)
      have ym := md_lt ot
      have BF : Hid (fitsB ((kc : Int) + 1) (bent (secret :: c) (kc + 2) kk (md ot)) = decide (evN (secret :: c) (kk + 1) = md ot)) := bent_fits _ (by rw [List.length_cons, HL.out]; omega) kl (by omega) ym
      have BJ : Hid (joinErr ((kc : Int) + 1) (bent (secret :: c) (kc + 2) kk (md ot)) = 0) := join_err (by omega) (by rw [bent_length]; omega) (bent_sound _ (by omega) (by omega) ym)
      have BB := hide (bent_bounds (secret :: c) (n := kc + 2) (k := kk) (y := md ot) (by omega) kl ym)
      have R4 : Row (w3.setCell ⟨g, kk * 2 + 1, none⟩ (.int .u64 (md ot : Nat))) g t (cellsP (bent (secret :: c) (kc + 2) kk (md ot)) ++ sp) := by
        have := R3.set (kk * 2 + 1) (.int .u64 (md ot : Nat))
        have e := cellsP_set (ptsTo (secret :: c) (kc + 2)) kk _ _ (md ot) GP
        rw [List.set_append_left _ _ (by rw [cellsP_length, ptsTo_length]; omega), e] at this
        exact this
      have O4 : Old wc (w3.setCell ⟨g, kk * 2 + 1, none⟩ (.int .u64 (md ot : Nat))) := O3.grown (grown_set _ _ _ _) hg
      have PT4 : Hid (PtsOf _ (some ⟨g, 0, none⟩) (kc + 2) cr (bent (secret :: c) (kc + 2) kk (md ot))) := ⟨bent_length _ _ _ _, hkc, BB.out, FreshP.pts (base := 0) ⟨g, t, sp, rfl, Nat.zero_le _, R4⟩⟩
      have RA := hide (N3.out.2.2.2.grown (grown_set w3 g (kk * 2 + 1) (.int .u64 (md ot : Nat))) (fun x h1 h2 => by
        have := N0.out.2.2.2.lt h2 h1
        omega))
      have RC4 := hide (RC.out.grown (grown_set w3 g (kk * 2 + 1) (.int .u64 (md ot : Nat))) FRE.out)
      clear FRE RC N3 R4 R3 GP BB SO
      go_wp2_with fail
      refine (R1.Mod_any ot hot _).mono ?_
      rintro e w4 ⟨rfl, rfl⟩
      obtain ⟨W4, hW4⟩ : ∃ W, W = w4.setCell ⟨g, kk * 2 + 1, none⟩ (.int .u64 (md ot : Nat)) := ⟨_, rfl⟩
      rw [← hW4] at PT4 RA RC4 O4
      go_wp2_with fail
      rw [← hW4]
      clear hW4 hcv hfv
      refine (KK.out.fits ((kc : Int) + 1) (bent (secret :: c) (kc + 2) kk (md ot)) (kc + 2) _ _ _ PT4.out (by omega) ⟨by omega, by omega⟩).mono ?_
      rintro e w5 ⟨rfl, o5⟩
      rw [BJ.out, BF.out]
      have RA5 := hide (RA.out.mono o5)
      have RC5 := hide (RC4.out.mono o5)
      have O5 := O4.trans o5
      clear PT4 RA RC4 BJ BF O4 o5 O3
      revert hot ym
      generalize evN (secret :: c) (kk + 1) = ee
      intro hot ym
      go_wp2_with fail
      refine (R1.Same_any kc kc c c _ _ _ _ _ (by omega) HL.out HL.out RC5.out RA5.out).mono ?_
      rintro e w6 ⟨rfl, o6⟩
      rw [decide_eq_true rfl]
      go_wp2_with fail
      refine (R1.Mod_any ot hot _).mono ?_
      rintro e w7 ⟨rfl, rfl⟩
      by_cases he : ee = md ot
      · rw [decide_eq_true he]
        have d1 : ((ee : Int) == ((md ot : Nat) : Int)) = true := by rw [beq_iff_eq]; omega
        go_wp2
        go_ret
        exact ⟨by simp, O5.trans o6⟩
      · rw [decide_eq_false he]
        have d1 : ((ee : Int) == ((md ot : Nat) : Int)) = false := by rw [beq_eq_false_iff_ne]; omega
        go_wp2
        go_ret
        exact ⟨by simp, O5.trans o6⟩
    · have hd : (((splitErr secret ((m : Int) + 1) ((m : Int) + 1 + 1) cs : Nat) : Int) != 0) = true := by rw [bne_iff_ne]; omega
      go_wp2_with fail
      refine (awake7 KK.out _).mono ?_
      rintro e w3 ⟨rfl, o3⟩
      go_wp2
      go_ret
      exact ⟨by simp, O2.trans o3⟩
end Go.Proofs.Ythfaahngnnfefaa
