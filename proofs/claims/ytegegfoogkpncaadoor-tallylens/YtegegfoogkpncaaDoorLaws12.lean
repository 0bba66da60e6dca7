/-
  The walks of layer 12's statements TallyLens, TallyWrites, if the layer's calls are what they owe.
-/
import Derived.Test.YtegegfoogkpncaaDoorTallyC
import Derived.Test.YtegegfoogkpncaaDoorOpenPl
import Derived.Deep.DeepCutAuto
namespace Go.Proofs.YtegegfoogkpncaaDoor
open Go.RowKit Pn
set_option linter.unusedVariables false

set_option maxHeartbeats 2000000 in
theorem walkK_TallyLens (K : TallyK) (v0 : Value) (w : World) (w0 : IsPlan w v0) (T : Tab w) :
    Calls Tryd.prog 3 #[v0] w fun e w' => e = .returned (.bool true) ∧ Old w w' := by
  obtain ⟨lo, hi, mo, a, n, cap, es, rfl, F⟩ := w0
  have B := hide (Bx.start cap F)
  have C0 := hide (fun (wr : World) (o : Old w wr) => awake12 K wr (T.mono o))
  have C1 := hide (fun (wr : World) (h : Fit wr lo hi mo a n es) => K.len lo hi mo a n cap es wr h)
  have C2 := hide (fun (wr : World) (h : Fit wr lo hi mo a n es) => refSound10_any cap wr h)
  have HN := hide F.len
  unfold lenS at C1
  clear K F T
  by_cases hs : soundZ lo hi mo es = 0
  · have C3 := hide (fun (wr : World) (h : Fit wr lo hi mo a n es) => refLen12_any cap wr h hs)
    have lb : lenN es (bN lo hi) ≤ 256 := by
      obtain ⟨h1, _, h3⟩ := sound_of hs
      unfold bad1 at h1
      unfold bad3 at h3
      have := bits_40 (d := (hi - lo).toNat) (by omega)
      unfold lenN bN
      omega
    simp only [hs, if_true] at C1 C2
    unfold pv at C1 C2 C3 ⊢
    rw [show bitsN (hi - lo).toNat = bN lo hi from rfl] at C3
    clear hs
    revert C1 C3 lb
    generalize lenN es (bN lo hi) = L
    intro C3 lb C1
    have lb' : decide (L ≤ 256) = true := by simpa using lb
    have lb2 : decide ((L : Int) ≤ 256) = true := by simp; omega
    clear lb
    go_enter Tryd.func3, Tryd.ntmps3
    go_wp2_with fail
    refine (C1.out _ B.out.fit).mono ?_
    rintro e w1 ⟨rfl, o1⟩
    have B1 := hide (B.out.mono o1)
    clear B o1
    have a0 := B1.out.c0
    have a1 := B1.out.c1
    have a2 := B1.out.c2
    have a3 := B1.out.c3
    go_wp2_with fail
    refine (C2.out _ B1.out.fit).mono ?_
    rintro e w2 ⟨rfl, o2⟩
    have B2 := hide (B1.out.mono o2)
    clear B1 o2 a0 a1 a2 a3
    go_wp2_with fail
    refine (C0.out _ B2.out.old).mono ?_
    rintro e w3 ⟨rfl, o3⟩
    have B3 := hide (B2.out.mono o3)
    clear B2 o3
    have a0 := B3.out.c0
    have a1 := B3.out.c1
    have a2 := B3.out.c2
    have a3 := B3.out.c3
    go_wp2_with fail
    refine (C3.out _ B3.out.fit).mono ?_
    rintro e w4 ⟨rfl, o4⟩
    have O := B3.out.old.trans o4
    clear B3 o4 a0 a1 a2 a3
    go_wp2
    go_ret
    exact ⟨by simp, O⟩
  · simp only [hs, if_false] at C1
    unfold pv at C1 C2 ⊢
    revert C1 C2 hs
    generalize soundZ lo hi mo es = s
    intro C2 hs C1
    have t1 : (s != 0) = true := by simpa using hs
    go_enter Tryd.func3, Tryd.ntmps3
    go_wp2_with fail
    refine (C1.out _ B.out.fit).mono ?_
    rintro e w1 ⟨rfl, o1⟩
    have B1 := hide (B.out.mono o1)
    clear B o1
    have a0 := B1.out.c0
    have a1 := B1.out.c1
    have a2 := B1.out.c2
    have a3 := B1.out.c3
    go_wp2_with fail
    refine (C2.out _ B1.out.fit).mono ?_
    rintro e w2 ⟨rfl, o2⟩
    have B2 := hide (B1.out.mono o2)
    clear B1 o2 a0 a1 a2 a3
    go_wp2_with fail
    refine (C0.out _ B2.out.old).mono ?_
    rintro e w3 ⟨rfl, o3⟩
    have O := B2.out.old.trans o3
    clear B2 o3
    go_wp2
    go_ret
    exact ⟨by simp, O⟩

set_option maxRecDepth 100000 in
set_option maxHeartbeats 8000000 in
theorem walkK_TallyWrites (K : TallyK) (v0 v1 : Value) (w : World) (w0 : IsPlan w v0) (w1 : IsSam w v1) (T : Tab w) :
    Calls Tryd.prog 4 #[v0, v1] w fun e w' => e = .returned (.bool true) ∧ Old w w' := by
  obtain ⟨lo, hi, mo, a, n, cap, es, rfl, F⟩ := w0
  obtain ⟨b, k0, ck, xs0, rfl, hkc, S0⟩ := w1
  have B := hide (Bx.start cap F)
  have HS := hide S0
  have C0 := hide (fun (wr : World) (o : Old w wr) => awake12 K wr (T.mono o))
  have C1 := hide (fun (k : Nat) (xs : List Int) (wr : World) (o : Old w wr) (h : Fit wr lo hi mo a n es) (h2 : Sam wr b k xs) => K.encode lo hi mo a n cap es b k ck xs wr h h2 (T.mono o))
  have C2 := hide (fun (wr : World) (h : Fit wr lo hi mo a n es) => refSound10_any cap wr h)
  have C3 := hide (fun (hs : soundZ lo hi mo es = 0) (k : Nat) (xs : List Int) (wr : World) (h : Fit wr lo hi mo a n es) (h2 : Sam wr b k xs) => refEncode12_any cap b k ck xs wr h hs h2)
  have HN := hide (And.intro F.len F.small)
  unfold pv at C1 C2 C3 ⊢
  rw [show bitsN (hi - lo).toNat = bN lo hi from rfl] at C3
  clear K F S0 T
  go_enter Tryd.func4, Tryd.ntmps4
  go_upto_if 10 with fail
  go_cut [1] (fun v wc => wc = w.alloc (.cells #[.int .i64 lo, .int .i64 hi, .int .i64 mo, .slice a n cap] 24) ∧ ∃ (k : Nat) (xs : List Int), v = .slice b k ck ∧ Hid (Sam w b k xs) ∧ k ≤ 300)
  case first =>
    by_cases h : 300 < k0
    · have d : decide ((300 : Int) < k0) = true := decide_eq_true (by omega)
      have d2 : (300 : Int) ≤ ck := by omega
      go_wp2_with fail
      go_meet
      exact ⟨rfl, 300, xs0.take 300, rfl, HS.out.cut (by omega), Nat.le_refl _⟩
    · have d : decide ((300 : Int) < k0) = false := decide_eq_false (by omega)
      go_wp2_with fail
      go_meet
      exact ⟨rfl, k0, xs0, rfl, HS.out, by omega⟩
  case rest =>
    obtain ⟨rfl, k, xs, rfl, S, hk⟩ := hcut
    clear HS hkc
    by_cases hs : soundZ lo hi mo es = 0
    · by_cases hm : mo < (k : Int)
      · have E := cap_many (k := k) hs hm
        have C4 := hide (C1.out k xs _ B.out.old B.out.fit (S.out.mono (Old.of_alloc _ _)))
        rw [E] at C4
        rw [hs] at C2
        clear C1 C3 E hs
        have t1 : decide (mo < (k : Int)) = true := by simpa using hm
        clear hm
        go_wp2_with fail
        refine C4.out.mono ?_
        rintro e w1 ⟨v, rfl, o1, _, h2⟩
        obtain ⟨a', c', rfl⟩ := h2 (by omega)
        have B1 := hide (B.out.mono o1)
        clear B o1 h2 C4
        have a0 := B1.out.c0
        have a1 := B1.out.c1
        have a2 := B1.out.c2
        have a3 := B1.out.c3
        go_wp2_with fail
        refine (C2.out _ B1.out.fit).mono ?_
        rintro e w2 ⟨rfl, o2⟩
        have B2 := hide (B1.out.mono o2)
        clear B1 o2 a0 a1 a2 a3
        have a2 := B2.out.c2
        go_wp2_with fail
        refine (C0.out _ B2.out.old).mono ?_
        rintro e w3 ⟨rfl, o3⟩
        have O := B2.out.old.trans o3
        clear B2 o3 a2
        go_wp2
        go_ret
        exact ⟨by simp, O⟩
      · have E := cap_ok (k := k) hs hm
        have C4 := hide (C1.out k xs _ B.out.old B.out.fit (S.out.mono (Old.of_alloc _ _)))
        have C5 := hide (C3.out hs k xs)
        rw [E] at C4
        have lb : lenN es (bN lo hi) ≤ 256 := by
          obtain ⟨h1, _, h3⟩ := sound_of hs
          unfold bad1 at h1
          unfold bad3 at h3
          have := bits_40 (d := (hi - lo).toNat) (by omega)
          unfold lenN bN
          omega
        have HV := hide (vecT_length lo hi es (bN lo hi) xs)
        rw [hs] at C2
        clear C1 C3 E hs
        have t1 : decide (mo < (k : Int)) = false := by simpa using hm
        clear hm
        go_wp2_with fail
        refine C4.out.mono ?_
        rintro e w1 ⟨v, rfl, o1, h1, _⟩
        obtain ⟨g, c', rfl, RO⟩ := (h1 rfl).rd
        rw [nums_length, vecT_length]
        have B1 := hide (B.out.mono o1)
        have S1 := hide ((S.out.mono (Old.of_alloc _ _)).mono o1)
        have RO1 := hide RO
        clear B o1 h1 C4 RO S
        have a0 := B1.out.c0
        have a1 := B1.out.c1
        have a2 := B1.out.c2
        have a3 := B1.out.c3
        go_wp2_with fail
        refine (C2.out _ B1.out.fit).mono ?_
        rintro e w2 ⟨rfl, o2⟩
        have B2 := hide (B1.out.mono o2)
        have S2 := hide (S1.out.mono o2)
        have RO2 := hide (RO1.out.mono o2)
        clear B1 o2 a0 a1 a2 a3 S1 RO1
        have a2 := B2.out.c2
        go_wp2_with fail
        refine (C0.out _ B2.out.old).mono ?_
        rintro e w3 ⟨rfl, o3⟩
        have B3 := hide (B2.out.mono o3)
        have S3 := hide (S2.out.mono o3)
        have RO3 := hide (RO2.out.mono o3)
        clear B2 o3 S2 RO2 a2
        have a0 := B3.out.c0
        have a1 := B3.out.c1
        have a2 := B3.out.c2
        have a3 := B3.out.c3
        go_wp2_with fail
        refine (C5.out _ B3.out.fit S3.out).mono ?_
        rintro e w4 ⟨g2, hg2, rfl, RW, o4⟩
        have RO4 := hide (RO3.out.mono o4)
        have RW4 := hide RW
        have O4 := hide (B3.out.old.trans o4)
        clear B3 S3 RO3 RW o4 hg2 a0 a1 a2 a3
        go_wp2_with fail
        refine (R1.Cells_any (lenN es (bN lo hi)) (lenN es (bN lo hi)) _ _ (some ⟨g, 0, none⟩) (some ⟨g2, 0, none⟩) c' (lenN es (bN lo hi)) _ (by omega) HV.out HV.out RO4.out (fun j v hv => ⟨g2, 0, rfl, by rw [Nat.zero_add]; exact RW4.out.cell hv⟩)).mono ?_
        rintro e w5 ⟨rfl, o5⟩
        have O := O4.out.trans o5
        clear RO4 RW4 O4 o5
        go_wp2
        go_ret
        exact ⟨by simp, O⟩
    · have E := cap_bad (mo := mo) (k := k) hs
      have C4 := hide (C1.out k xs _ B.out.old B.out.fit (S.out.mono (Old.of_alloc _ _)))
      rw [E] at C4
      clear C1 C3 E
      revert C2 C4 hs
      generalize soundZ lo hi mo es = s
      intro C2 hs C4
      have t1 : (s != 0) = true := by simpa using hs
      have t2 : (s == 0) = false := by simpa using hs
      go_wp2_with fail
      refine C4.out.mono ?_
      rintro e w1 ⟨v, rfl, o1, _, h2⟩
      obtain ⟨a', c', rfl⟩ := h2 hs
      have B1 := hide (B.out.mono o1)
      clear B o1 h2 C4
      have a0 := B1.out.c0
      have a1 := B1.out.c1
      have a2 := B1.out.c2
      have a3 := B1.out.c3
      go_wp2_with fail
      refine (C2.out _ B1.out.fit).mono ?_
      rintro e w2 ⟨rfl, o2⟩
      have B2 := hide (B1.out.mono o2)
      clear B1 o2 a0 a1 a2 a3
      go_wp2_with fail
      refine (C0.out _ B2.out.old).mono ?_
      rintro e w3 ⟨rfl, o3⟩
      have O := B2.out.old.trans o3
      clear B2 o3
      go_wp2
      go_ret
      exact ⟨by simp, O⟩
end Go.Proofs.YtegegfoogkpncaaDoor
