/-
  What layer 7's calls owe, told by values alone (the walks of its statements ask no more); the fixed fact of its statements.
-/
import Derived.Test.YthfaahngnnfefaaRefShare
import Derived.Test.YthfaahngnnfefaaOwnP
namespace Go.Proofs.Ythfaahngnnfefaa
open Go.RowKit M Pm
set_option linter.unusedVariables false

/-- A new slice of these points: its block is the call's own, known whole. -/
def FreshP (base : Nat) (w : World) (r : Option Addr) (ps : List Pt) : Prop := ∃ g t sp, r = some ⟨g, 0, none⟩ ∧ base ≤ g ∧ Row w g t (cellsP ps ++ sp)
theorem FreshP.mono {base : Nat} {w w' : World} {r : Option Addr} {ps : List Pt} (h : FreshP base w r ps) (o : Old w w') : FreshP base w' r ps := by
  obtain ⟨g, t, sp, h1, h2, h3⟩ := h
  exact ⟨g, t, sp, h1, h2, h3.mono o⟩
theorem FreshP.pts {base : Nat} {w : World} {r : Option Addr} {ps : List Pt} (h : FreshP base w r ps) : Pts w r ps := by
  obtain ⟨g, t, sp, rfl, _, R⟩ := h
  intro i p hp
  obtain ⟨c1, c2⟩ := cellsP_get ps i p hp
  have key : ∀ j v, (cellsP ps)[j]? = some v → w.cell? ⟨g, j, none⟩ = some v := fun j v hv => R.cell (by
    rw [List.getElem?_append_left (List.getElem?_eq_some_iff.1 hv).1]; exact hv)
  exact ⟨g, 0, rfl, by rw [Nat.zero_add]; exact key _ _ c1, by rw [Nat.zero_add]; exact key _ _ c2⟩

def I64 (z : Int) : Prop := -9223372036854775808 ≤ z ∧ z ≤ 9223372036854775807
def SplitC : Prop := ∀ (secret : Nat) (enough n : Int) (cs : List Nat) (m : Nat) (a : Option Addr) (cap : Nat) (w : World), Nums w a m cap cs → m ≤ 281474976710656 → secret < 18446744073709551616 → I64 enough → I64 n →
  Calls Try.prog 9 #[.int .u64 (secret : Nat), .int .i64 enough, .int .i64 n, .slice a m cap] w fun e w' => Old w w' ∧ ∃ (r : Option Addr) (k cr : Nat), e = .returned (.tuple #[.slice r k cr, .int .i64 (splitErr secret enough n cs : Nat)]) ∧ k ≤ cr ∧
    (splitErr secret enough n cs ≠ 0 → k = 0) ∧ (splitErr secret enough n cs = 0 → (k : Int) = n ∧ FreshP w.heap.size w' r (ptsTo (secret :: cs) k))
def JoinC : Prop := ∀ (enough : Int) (ps : List Pt) (n : Nat) (a : Option Addr) (cap : Nat) (w : World), PtsOf w a n cap ps → n ≤ 281474976710656 → I64 enough →
  Calls Try.prog 13 #[.int .i64 enough, .slice a n cap] w fun e w' => e = .returned (.tuple #[.int .u64 (joinN enough ps : Nat), .int .i64 (joinErr enough ps : Nat)]) ∧ Old w w'
def FitsC : Prop := ∀ (enough : Int) (ps : List Pt) (n : Nat) (a : Option Addr) (cap : Nat) (w : World), PtsOf w a n cap ps → n ≤ 281474976710656 → I64 enough →
  Calls Try.prog 15 #[.int .i64 enough, .slice a n cap] w fun e w' => e = .returned (.tuple #[.bool (fitsB enough ps), .int .i64 (joinErr enough ps : Nat)]) ∧ Old w w'
def OtherC : Prop := ∀ (secret : Nat) (enough : Int) (ps : List Pt) (n : Nat) (a : Option Addr) (cap : Nat) (w : World), PtsOf w a n cap ps → n ≤ 281474976710656 → secret < 18446744073709551616 → I64 enough →
  Calls Try.prog 17 #[.int .u64 (secret : Nat), .int .i64 enough, .slice a n cap] w fun e w' => Old w w' ∧ ∃ (cs : List Nat) (r : Option Addr) (k cr : Nat), e = .returned (.tuple #[.slice r k cr, .int .i64 (otherErr secret enough ps : Nat)]) ∧ k ≤ cr ∧
    (otherErr secret enough ps ≠ 0 → k = 0) ∧ (otherErr secret enough ps = 0 → (k : Int) = enough - 1 ∧ cs.length = k ∧ (∀ y ∈ cs, y < 2305843009213693951) ∧ On (secret :: cs) ps ∧ Rd w' r (nums .u64 cs) ∧ ∀ x, 0 < k → r = some x → w.heap.size ≤ x.block)
structure ShareK : Prop where
  split : SplitC
  join : JoinC
  fits : FitsC
  other : OtherC

theorem PtsOf.of_fresh {base : Nat} {w : World} {r : Option Addr} {c : List Nat} {k cap : Nat} (h : FreshP base w r (ptsTo c k)) (hk : k ≤ 64) (hc : k ≤ cap) : PtsOf w r k cap (ptsTo c k) :=
  ⟨ptsTo_length c k, hc, ptsTo_bounds c hk, h.pts⟩

namespace Aw7
theorem e0 : splitErr 7 2 3 [4] = 0 := by decide
theorem S3 : SoundP (ptsTo [7, 4] 3) := ptsTo_sound _ (by omega) (by omega)
def ps2 : List Pt := [(2, 15), (3, 19)]
theorem pts3 : ptsTo [7, 4] 3 = [(1, 11), (2, 15), (3, 19)] := by decide
theorem S2 : SoundP ps2 := sound_of (by decide)
theorem on2 : On [7, 4] ps2 := ⟨fun i hi => by
  match i, hi with
  | 0, _ => decide
  | 1, _ => decide⟩
theorem jerr : joinErr 2 ps2 = 0 := join_err (by decide) (by decide) S2
theorem jnum : joinN 2 ps2 = 7 := by
  unfold joinN
  rw [if_pos jerr]
  exact (on_lag S2 (by decide) (by decide) (by decide) on2 0).trans (by decide)
theorem ferr : joinErr 2 (ptsTo [7, 4] 3) = 0 := join_err (by decide) (by decide) S3
theorem fok : fitsB 2 (ptsTo [7, 4] 3) = true := by
  unfold fitsB
  rw [if_pos ferr]
  exact on_fits S3 (by decide) (by decide) (by decide) (on_ptsTo _ _)
theorem oerr : otherErr 9 2 (ptsTo [7, 4] 1) = 0 := other_err (by decide) (by decide) (by decide) (by decide) (fun _ => ptsTo_sound _ (by omega) (by omega))
theorem c2 {cs : List Nat} (hl : cs.length = 1) (hb : ∀ y ∈ cs, y < 2305843009213693951) (O : On (9 :: cs) (ptsTo [7, 4] 1)) : cs = [2] := by
  match cs, hl with
  | [c], _ =>
    have h := O.all 0 (by decide)
    have hc := hb c (by simp)
    have e1 : (at1 (ptsTo [7, 4] 1) 0).toNat = 1 := by decide
    have e2 : at2 (ptsTo [7, 4] 1) 0 = 11 := by decide
    rw [e1, e2] at h
    have h2 := F_evN [9, c] 1
    rw [h] at h2
    simp only [List.map_cons, List.map_nil, ev, F_one] at h2
    have h3 : F c = F 2 := by
      have a9 : F 9 = 9 := by decide
      have a11 : F 11 = 11 := by decide
      have a2 : F 2 = 2 := by decide
      rw [a9, a11] at h2
      rw [a2]
      grind
    rw [F_inj hc (by omega) h3]
theorem drop1 {base : Nat} {w : World} {g : Nat} (h : FreshP base w (some ⟨g, 0, none⟩) (ptsTo [7, 4] 3)) {cap : Nat} (hc : 2 ≤ cap) : PtsOf w (some ⟨g, 2, none⟩) 2 cap ps2 := by
  refine ⟨rfl, hc, by decide, ?_⟩
  have P := h.pts
  rw [pts3] at P
  intro i p hp
  match i with
  | 0 =>
    simp [ps2] at hp; subst hp
    obtain ⟨b, off, e, c1, c2⟩ := P 1 (2, 15) rfl
    obtain ⟨rfl, rfl⟩ : g = b ∧ 0 = off := by simpa using e
    exact ⟨_, _, rfl, c1, c2⟩
  | 1 =>
    simp [ps2] at hp; subst hp
    obtain ⟨b, off, e, c1, c2⟩ := P 2 (3, 19) rfl
    obtain ⟨rfl, rfl⟩ : g = b ∧ 0 = off := by simpa using e
    exact ⟨_, _, rfl, c1, c2⟩
  | i + 2 => simp [ps2] at hp
end Aw7

set_option maxHeartbeats 2000000 in
theorem awake7 (K : ShareK) (w : World) : Calls Try.prog 10 #[] w fun e w' => e = .returned (.bool true) ∧ Old w w' := by
  have KK := hide K
  have N0 : Hid (Nums (w.alloc (.cells #[.int .u64 4] 22)) (some ⟨w.heap.size, 0, none⟩) 1 1 [4]) := ⟨rfl, Nat.le_refl _, by simp, rd_new rfl rfl⟩
  clear K
  go_enter Try.func10, Try.ntmps10
  go_wp2_with fail
  refine (KK.out.split 7 2 3 [4] 1 _ 1 _ N0.out (by omega) (by omega) ⟨by omega, by omega⟩ ⟨by omega, by omega⟩).mono ?_
  rintro e w1 ⟨o1, r, k, cr, rfl, hkc, _, hs⟩
  obtain ⟨hk, FP⟩ := hs Aw7.e0
  obtain rfl : k = 3 := by omega
  rw [Aw7.e0]
  have hFP := hide FP
  obtain ⟨g, t, sp, rfl, hg, _⟩ := FP
  have O1 := (Old.of_alloc w (.cells #[.int .u64 4] 22)).trans o1
  clear hs o1 N0
  go_wp2_with fail
  refine (KK.out.join 2 Aw7.ps2 2 _ _ _ (Aw7.drop1 hFP.out (by omega)) (by omega) ⟨by omega, by omega⟩).mono ?_
  rintro e w2 ⟨rfl, o2⟩
  rw [Aw7.jerr, Aw7.jnum]
  have hFP2 := hide (hFP.out.mono o2)
  have O2 := O1.trans o2
  clear hFP O1 o2
  go_wp2_with fail
  refine (KK.out.fits 2 (ptsTo [7, 4] 3) 3 _ _ _ (PtsOf.of_fresh hFP2.out (by omega) (by omega)) (by omega) ⟨by omega, by omega⟩).mono ?_
  rintro e w3 ⟨rfl, o3⟩
  rw [Aw7.ferr, Aw7.fok]
  have hFP3 := hide (hFP2.out.mono o3)
  have O3 := O2.trans o3
  clear hFP2 O2 o3
  have P1 := hide ((PtsOf.of_fresh hFP3.out (by omega) hkc).take (k := 1) (by omega))
  rw [ptsTo_take _ (by omega)] at P1
  go_wp2_with fail
  refine (KK.out.other 9 2 (ptsTo [7, 4] 1) 1 _ _ _ P1.out (by omega) (by omega) ⟨by omega, by omega⟩).mono ?_
  rintro e w4 ⟨o4, cs, rc, kc, cc, rfl, hcc, _, ho⟩
  obtain ⟨hk1, hl1, hb1, on1, rd1, _⟩ := ho Aw7.oerr
  obtain rfl : kc = 1 := by omega
  obtain rfl := Aw7.c2 hl1 hb1 on1
  rw [Aw7.oerr]
  have hFP4 := hide (hFP3.out.mono o4)
  have O4 := O3.trans o4
  clear hFP3 O3 o4 ho
  obtain ⟨b, off, y, rfl, Hy, hcy⟩ := rd1.num (i := 0) (by simp)
  obtain rfl : 2 = y := by simpa using Hy.out
  have P4 := hFP4.out.pts
  rw [Aw7.pts3] at P4
  obtain ⟨b2, off2, e2, _, hc19⟩ := P4 2 (3, 19) rfl
  obtain ⟨rfl, rfl⟩ : g = b2 ∧ 0 = off2 := by simpa using e2
  clear P4 hFP4 rd1
  replace hcy : w4.cell? ⟨b, off, none⟩ = some (.int .u64 2) := hcy
  replace hc19 : w4.cell? ⟨g, 5, none⟩ = some (.int .u64 19) := hc19
  go_wp2
  go_ret
  exact ⟨by simp, O4⟩
end Go.Proofs.Ythfaahngnnfefaa
