/-
  The walk of layer 12's statement TallyCounts, if the layer's calls are what they owe.
-/
import Derived.Test.YtegegfoogkpncaaDoorLaws12
namespace Go.Proofs.YtegegfoogkpncaaDoor
open Go.RowKit Pn
set_option linter.unusedVariables false

set_option maxRecDepth 100000 in
set_option maxHeartbeats 8000000 in
theorem walkK_TallyCounts (K : TallyK) (v0 v1 : Value) (w : World) (w0 : IsPlan w v0) (w1 : IsSam w v1) (T : Tab w) :
    Calls Tryd.prog 7 #[v0, v1] w fun e w' => e = .returned (.bool true) ∧ Old w w' := by
  obtain ⟨lo, hi, mo, a, n, cap, es, rfl, F⟩ := w0
  obtain ⟨b, k0, ck, xs0, rfl, hkc, S0⟩ := w1
  have B := hide (Bx.start cap F)
  have HS := hide S0
  have C0 := hide (fun (wr : World) (o : Old w wr) => awake12 K wr (T.mono o))
  have C1 := hide (fun (k : Nat) (xs : List Int) (wr : World) (o : Old w wr) (h : Fit wr lo hi mo a n es) (h2 : Sam wr b k xs) => K.encode lo hi mo a n cap es b k ck xs wr h h2 (T.mono o))
  have HN := hide (And.intro F.len F.small)
  unfold pv at C1 ⊢
  clear K F S0 T
  go_enter Tryd.func7, Tryd.ntmps7
  go_upto_if 13 with fail
  go_cut [1] (fun v wc => wc = w.alloc (.cells #[.int .i64 lo, .int .i64 hi, .int .i64 mo, .slice a n cap] 24) ∧ ∃ (k : Nat) (xs : List Int), v = .slice b k ck ∧ Hid (Sam w b k xs) ∧ k ≤ 300)
  case first =>
    by_cases h : 300 < k0
    · have d : decide ((300 : Int) < k0) = true := decide_eq_true (by omega)
      have d2 : (300 : Int) ≤ ck := by omega
      go_wp2_with fail
      go_meet
      exact ⟨rfl, 300, xs0.take 300, rfl, HS.out.cut (by omega), Nat.le_refl _⟩
    · have d : decide ((300 : Int) < k0) = false := decide_eq_false (by omega)
      go_wp2_with fail
      go_meet
      exact ⟨rfl, k0, xs0, rfl, HS.out, by omega⟩
  case rest =>
    obtain ⟨rfl, k, xs, rfl, S, hk⟩ := hcut
    clear HS hkc
    have C4 := hide (C1.out k xs _ B.out.old B.out.fit (S.out.mono (Old.of_alloc _ _)))
    clear C1
    by_cases hE : capZ (soundZ lo hi mo es) mo k = 0
    · have hs : soundZ lo hi mo es = 0 := by
        apply Classical.byContradiction
        intro h
        rw [cap_bad h] at hE
        exact h hE
      rw [hE] at C4
      have n64 : n ≤ 64 ∧ lenN es (bN lo hi) ≤ 256 := by
        obtain ⟨h1, _, h3⟩ := sound_of hs
        have := HN.out.1
        unfold bad1 at h1
        unfold bad3 at h3
        have := bits_40 (d := (hi - lo).toNat) (by omega)
        unfold lenN bN
        omega
      have HK := hide S.out.len
      have HL : Hid (n + 2 ≤ lenN es (bN lo hi)) := by show _ ≤ _; unfold lenN; rw [HN.out.1]; omega
      have VG : Hid (∀ j, j < lenN es (bN lo hi) → (vecT lo hi es (bN lo hi) xs)[j]? = some (tot lo hi es (bN lo hi) j xs) ∧ tot lo hi es (bN lo hi) j xs ≤ k) := fun j hj => by
        have h1 := tot_le lo hi es (bN lo hi) j xs
        rw [HK.out] at h1
        exact ⟨by rw [vecT_get lo hi es (bN lo hi) xs hj, Nat.mod_eq_of_lt (by omega)], h1⟩
      have SB : Hid (∀ m, m ≤ n + 1 → sumTo lo hi es (bN lo hi) xs m ≤ k) := fun m hm => by
        have := sumTo_le lo hi es (bN lo hi) (m := m) (by rw [HN.out.1]; exact hm) xs
        rw [HK.out] at this
        exact this
      have SA : Hid (sumTo lo hi es (bN lo hi) xs (n + 1) = k ∧ tot lo hi es (bN lo hi) (n + 1) xs = k) := by
        have h1 := sumTo_all lo hi es (bN lo hi) xs
        have h2 := tot_count lo hi es (bN lo hi) xs
        rw [HN.out.1, HK.out] at h1 h2
        exact ⟨h1, h2⟩
      clear hE hs
      go_wp2_with fail
      refine C4.out.mono ?_
      rintro e w1 ⟨v, rfl, o1, h1, _⟩
      obtain ⟨g, c', rfl, RO⟩ := (h1 rfl).rd
      rw [nums_length, vecT_length]
      have B1 := hide (B.out.mono o1)
      have RO1 := hide RO
      clear B o1 h1 C4 RO S
      go_wp2_with fail
      refine (C0.out _ B1.out.old).mono ?_
      rintro e w2 ⟨rfl, o2⟩
      have B2 := hide (B1.out.mono o2)
      have RO2 := hide (RO1.out.mono o2)
      clear B1 o2 RO1 C0
      have a3 := B2.out.c3
      have nb : (n : Int) ≤ 64 := by omega
      obtain ⟨nn, LB⟩ := n64
      have AT : Hid (∀ j, j < lenN es (bN lo hi) → w2.cell? ⟨g, j, none⟩ = some (.int .u32 ((tot lo hi es (bN lo hi) j xs : Nat) : Int))) := fun j hj => by
        obtain ⟨b1, o1, e1, h1⟩ := RO2.out j (.int .u32 ((tot lo hi es (bN lo hi) j xs : Nat) : Int)) (by unfold nums; rw [List.getElem?_map, (VG.out j hj).1]; rfl)
        obtain ⟨rfl, rfl⟩ : g = b1 ∧ 0 = o1 := by simpa using e1
        rw [Nat.zero_add] at h1
        exact h1
      have O2 := B2.out.old
      clear B2 RO2
      revert VG SB SA AT HL LB
      generalize lenN es (bN lo hi) = L
      generalize bN lo hi = bb
      intro HL VG SB SA LB AT
      go_wp2_with fail
      go_loop [7, 9] (fun va vi => ∃ i : Nat, i ≤ n + 1 ∧ vi = .int .i64 (i : Int) ∧ va = .int .i64 ((sumTo lo hi es bb xs i : Nat) : Int)) (fun _ vi => n + 1 - (intOf vi).toNat)
      case atStart => exact ⟨0, Nat.zero_le _, rfl, rfl⟩
      case round =>
        obtain ⟨i, hi', rfl, rfl⟩ := hrel
        by_cases hl : i < n + 1
        · have t3 : decide (i < n + 1) = true := by simpa using hl
          have t3' : decide ((i : Int) < (n : Int) + 1) = true := by simp; omega
          have ci := AT.out i (by have := HL.out; omega)
          have e1 : Hid (sumTo lo hi es bb xs (i + 1) = sumTo lo hi es bb xs i + tot lo hi es bb i xs) := rfl
          have b1 := SB.out (i + 1) (by omega)
          rw [e1.out] at b1
          revert ci e1 b1
          generalize sumTo lo hi es bb xs i = sa
          generalize tot lo hi es bb i xs = z
          intro ci e1 b1
          have q0 : (0 : Int) ≤ i := by omega
          have q1 : (i : Int) < L := by have := HL.out; omega
          have q2 : (i : Int) ≤ 64 := by omega
          have q3 : (sa : Int) + z ≤ 300 := by omega
          have q4 : (0 : Int) ≤ (sa : Int) + z := by omega
          have q5 : (z : Int) ≤ 300 := by omega
          have q6 : (0 : Int) ≤ z := by omega
          go_wp2
          go_round
          case rel => exact ⟨i + 1, by omega, by go_num, by rw [e1.out]; simp⟩
          case measure => simp [intOf]; omega
        · obtain rfl : i = n + 1 := by omega
          have t3 : decide (n + 1 < n + 1) = false := by simp
          have t3' : decide ((n : Int) + 1 < (n : Int) + 1) = false := by simp
          rw [SA.out.1]
          go_wp2_with fail
          go_loop [10] (fun vi => ∃ i : Nat, n + 1 ≤ i ∧ i ≤ L ∧ vi = .int .i64 (i : Int)) (fun vi => L - (intOf vi).toNat)
          case atStart => exact ⟨n + 1, Nat.le_refl _, by have := HL.out; omega, by simp⟩
          case round =>
            obtain ⟨i, hn1, hi2, rfl⟩ := hrel
            by_cases hl2 : i < L
            · have t4 : decide (i < L) = true := by simpa using hl2
              have t4' : decide ((i : Int) < (L : Int)) = true := by simp; omega
              have ci := AT.out i hl2
              have b1 := (VG.out i hl2).2
              revert ci b1
              generalize tot lo hi es bb i xs = z
              intro ci b1
              have t5 : decide (k < z) = false := by simp; omega
              have t5' : decide ((k : Int) < (z : Int)) = false := by simp; omega
              have q0 : (0 : Int) ≤ i := by omega
              have q1 : (i : Int) < L := by omega
              have q2 : (i : Int) ≤ 256 := by omega
              have q5 : (z : Int) ≤ 300 := by omega
              have q6 : (0 : Int) ≤ z := by omega
              clear b1
              go_wp2
              go_round
              case rel => exact ⟨i + 1, by omega, by omega, by go_num⟩
              case measure => simp [intOf]; omega
            · obtain rfl : i = L := by omega
              have t4 : decide (i < i) = false := by simp
              have t4' : decide ((i : Int) < (i : Int)) = false := by simp
              have ci := AT.out (n + 1) (by have := HL.out; omega)
              rw [SA.out.2] at ci
              have q0 : (0 : Int) ≤ (n : Int) + 1 := by omega
              have q1 : (n : Int) + 1 < i := by have := HL.out; omega
              go_wp2
              go_ret
              exact ⟨by simp, O2⟩
    · revert C4 hE
      generalize capZ (soundZ lo hi mo es) mo k = s
      intro C4 hE
      have t1 : (s != 0) = true := by simpa using hE
      go_wp2_with fail
      refine C4.out.mono ?_
      rintro e w1 ⟨v, rfl, o1, _, h2⟩
      obtain ⟨a', c', rfl⟩ := h2 hE
      have B1 := hide (B.out.mono o1)
      clear B o1 h2 C4
      go_wp2_with fail
      refine (C0.out _ B1.out.old).mono ?_
      rintro e w2 ⟨rfl, o2⟩
      have B2 := hide (B1.out.mono o2)
      clear B1 o2
      go_wp2_with fail
      refine (C0.out _ B2.out.old).mono ?_
      rintro e w3 ⟨rfl, o3⟩
      have O := B2.out.old.trans o3
      clear B2 o3
      go_wp2
      go_ret
      exact ⟨rfl, O⟩
end Go.Proofs.YtegegfoogkpncaaDoor
