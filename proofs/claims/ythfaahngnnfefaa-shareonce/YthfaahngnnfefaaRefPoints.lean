/-
  The document's points (offertoryref06.Points): may they be so?
-/
import Derived.Test.YthfaahngnnfefaaRefPoly
namespace Go.Proofs.Ythfaahngnnfefaa
open Go.RowKit M Pm
set_option linter.unusedVariables false

def at1 (ps : List Pt) (i : Nat) : Int := (ps.getD i (0, 0)).1
def at2 (ps : List Pt) (i : Nat) : Nat := (ps.getD i (0, 0)).2
theorem at_of {ps : List Pt} {i : Nat} {z : Int} {v : Nat} (h : ps[i]? = some (z, v)) : at1 ps i = z ∧ at2 ps i = v := by
  simp [at1, at2, List.getD_eq_getElem?_getD, h]
/-- Does a point ahead of place i stand there, too? -/
def twice (ps : List Pt) (i : Nat) : Nat → Bool
  | 0 => false
  | k + 1 => twice ps i k || at1 ps i == at1 ps k
def anyTwice (ps : List Pt) : Nat → Bool
  | 0 => false
  | i + 1 => anyTwice ps i || twice ps i i
def wide (z : Int) (v : Nat) : Bool := decide (z < 1) || decide (64 < z) || decide (2305843009213693951 ≤ v)
def anyWide (ps : List Pt) : Nat → Bool
  | 0 => false
  | i + 1 => anyWide ps i || wide (at1 ps i) (at2 ps i)
theorem twice_le {ps : List Pt} {i : Nat} : ∀ {k m : Nat}, k ≤ m → twice ps i k = true → twice ps i m = true
  | k, 0, h, ht => by
    obtain rfl : k = 0 := by omega
    exact ht
  | k, m + 1, h, ht => by
    by_cases e : k = m + 1
    · rw [← e]; exact ht
    · rw [twice, twice_le (show k ≤ m by omega) ht]; rfl
theorem anyTwice_le {ps : List Pt} : ∀ {k m : Nat}, k ≤ m → anyTwice ps k = true → anyTwice ps m = true
  | k, 0, h, ht => by
    obtain rfl : k = 0 := by omega
    exact ht
  | k, m + 1, h, ht => by
    by_cases e : k = m + 1
    · rw [← e]; exact ht
    · rw [anyTwice, anyTwice_le (show k ≤ m by omega) ht]; rfl
def numE (b : Bool) : Nat := if b = true then 4 else 0
def errOf (ps : List Pt) : Nat :=
  if ps.length = 0 ∨ 64 < ps.length then 1 else if anyTwice ps ps.length = true then 1 else numE (anyWide ps ps.length)

theorem twice_no {ps : List Pt} {i : Nat} : ∀ {k : Nat}, twice ps i k = false → ∀ j, j < k → at1 ps i ≠ at1 ps j
  | 0, _, j, hj => by omega
  | k + 1, h, j, hj => by
    rw [twice, Bool.or_eq_false_iff] at h
    by_cases e : j = k
    · rw [e]; simpa using h.2
    · exact twice_no h.1 j (by omega)
theorem anyTwice_no {ps : List Pt} : ∀ {n : Nat}, anyTwice ps n = false → ∀ i j, i < n → j < n → i ≠ j → at1 ps i ≠ at1 ps j
  | 0, _, i, j, hi, _, _ => by omega
  | n + 1, h, i, j, hi, hj, hij => by
    rw [anyTwice, Bool.or_eq_false_iff] at h
    by_cases e1 : i = n
    · subst e1
      exact twice_no h.2 j (by omega)
    · by_cases e2 : j = n
      · subst e2
        exact (twice_no h.2 i (by omega)).symm
      · exact anyTwice_no h.1 i j (by omega) (by omega) hij
theorem anyWide_no {ps : List Pt} : ∀ {n : Nat}, anyWide ps n = false → ∀ i, i < n → 1 ≤ at1 ps i ∧ at1 ps i ≤ 64 ∧ at2 ps i < 2305843009213693951
  | 0, _, i, hi => by omega
  | n + 1, h, i, hi => by
    rw [anyWide, Bool.or_eq_false_iff] at h
    by_cases e : i = n
    · subst e
      have := h.2
      simp [wide] at this
      omega
    · exact anyWide_no h.1 i (by omega)
/-- Sound points. -/
structure SoundP (ps : List Pt) : Prop where
  pos : 0 < ps.length
  le : ps.length ≤ 64
  apart : ∀ i j, i < ps.length → j < ps.length → i ≠ j → at1 ps i ≠ at1 ps j
  inr : ∀ i, i < ps.length → 1 ≤ at1 ps i ∧ at1 ps i ≤ 64 ∧ at2 ps i < 2305843009213693951
theorem sound_of {ps : List Pt} (h : errOf ps = 0) : SoundP ps := by
  unfold errOf at h
  split at h
  · cases h
  · rename_i h1
    split at h
    · cases h
    · rename_i h2
      unfold numE at h
      split at h
      · cases h
      · rename_i h3
        exact ⟨by omega, by omega, anyTwice_no (by simpa using h2), anyWide_no (by simpa using h3)⟩

set_option maxHeartbeats 2000000 in
theorem refPoints_any (ps : List Pt) (n : Nat) (a : Option Addr) (cap : Nat) (w : World) (hl : ps.length = n) (hn : n ≤ 1125899906842624) (rd : Pts w a ps) :
    Calls Try.prog 18 #[.slice a n cap] w fun e w' => e = .returned (.int .i64 (errOf ps : Nat)) ∧ Old w w' := by
  have HL := hide hl
  have HE : Hid (errOf ps = if n = 0 ∨ 64 < n then 1 else if anyTwice ps n = true then 1 else numE (anyWide ps n)) := by show _ = _; rw [errOf, hl]
  clear hl
  by_cases h0 : n = 0
  · subst h0
    go_enter Try.func18, Try.ntmps18
    go_wp2
    go_ret
    rw [HE.out]
    exact ⟨rfl, Old.refl _⟩
  · by_cases h64 : 64 < n
    · have hz : ((n : Int) == 0) = false := by rw [beq_eq_false_iff_ne]; omega
      have hg : decide ((64 : Int) < n) = true := decide_eq_true (by omega)
      go_enter Try.func18, Try.ntmps18
      go_wp2
      go_ret
      rw [HE.out, if_pos (.inr h64)]
      exact ⟨rfl, Old.refl _⟩
    · have hz : ((n : Int) == 0) = false := by rw [beq_eq_false_iff_ne]; omega
      have hg : decide ((64 : Int) < n) = false := decide_eq_false (by omega)
      have HE2 : Hid (errOf ps = if anyTwice ps n = true then 1 else numE (anyWide ps n)) := by show _ = _; rw [HE.out, if_neg (by omega)]
      clear HE
      go_enter Try.func18, Try.ntmps18
      go_wp2_with fail
      go_loopw [3, 4] (fun ve vi wr => ∃ i : Nat, i ≤ n ∧ vi = .int .i64 (i : Nat) ∧ ve = .int .i64 (numE (anyWide ps i) : Nat) ∧ Hid (anyTwice ps i = false) ∧ Old w wr) (fun _ vi _ => (n - intOf vi).toNat)
      case atStart => exact ⟨0, by omega, rfl, rfl, rfl, Old.refl _⟩
      case round =>
        obtain ⟨i, hi, rfl, rfl, T, hol⟩ := hrel
        by_cases hin : i = n
        · subst hin
          go_wp2
          go_ret
          rw [HE2.out, if_neg (by rw [T.out]; simp)]
          exact ⟨rfl, hol⟩
        · have hil : i < n := by omega
          obtain ⟨b, off, z, v, rfl, Hp, hc1, hc2⟩ := (rd.mono hol).at (i := i) (by rw [HL.out]; exact hil)
          have hii : (0 : Int) ≤ i := by omega
          have hii2 : (i : Int) < n := by omega
          go_wp2_with fail
          go_loopw [5] (fun vk wr' => ∃ k : Nat, k ≤ i ∧ vk = .int .i64 (k : Nat) ∧ Hid (twice ps i k = false) ∧ Old wr wr') (fun vk _ => (i - intOf vk).toNat)
          case atStart => exact ⟨0, by omega, rfl, rfl, Old.refl _⟩
          case round =>
            obtain ⟨k, hk, rfl, T2, hol2⟩ := hrel
            have d1 := (World.cell?_of_block (hol2.block b (World.block_lt_of_cell? _ _ hc1))).trans hc1
            have d2 := (World.cell?_of_block (hol2.block b (World.block_lt_of_cell? _ _ hc2))).trans hc2
            by_cases hki : k = i
            · subst hki
              have AT := hide (at_of Hp.out)
              have T3 : Hid (anyTwice ps (k + 1) = false) := by show _ = _; rw [anyTwice, T.out, T2.out]; rfl
              by_cases hw : wide z v = true
              · have HW : Hid (numE (anyWide ps (k + 1)) = 4) := by
                  show _ = _
                  rw [anyWide, AT.out.1, AT.out.2, hw, Bool.or_true]; rfl
                by_cases w1 : z < 1
                · have e1 : decide (z < 1) = true := decide_eq_true w1
                  go_wp2
                  go_roundw
                  case rel => exact ⟨k + 1, by omega, by go_num, by rw [HW.out]; rfl, T3, hol.trans hol2⟩
                  case measure => simp [intOf]; omega
                · have e1 : decide (z < 1) = false := decide_eq_false w1
                  by_cases w2 : 64 < z
                  · have e2 : decide (64 < z) = true := decide_eq_true w2
                    go_wp2
                    go_roundw
                    case rel => exact ⟨k + 1, by omega, by go_num, by rw [HW.out]; rfl, T3, hol.trans hol2⟩
                    case measure => simp [intOf]; omega
                  · have e2 : decide (64 < z) = false := decide_eq_false w2
                    have w3 : 2305843009213693951 ≤ v := by simpa [wide, e1, e2] using hw
                    have e3 : decide ((2305843009213693951 : Int) ≤ (v : Nat)) = true := decide_eq_true (by omega)
                    go_wp2
                    go_roundw
                    case rel => exact ⟨k + 1, by omega, by go_num, by rw [HW.out]; rfl, T3, hol.trans hol2⟩
                    case measure => simp [intOf]; omega
              · have hw' : wide z v = false := by simpa using hw
                have HW : Hid (numE (anyWide ps (k + 1)) = numE (anyWide ps k)) := by
                  show _ = _
                  rw [anyWide, AT.out.1, AT.out.2, hw', Bool.or_false]
                simp only [wide, Bool.or_eq_false_iff] at hw'
                obtain ⟨⟨e1, e2⟩, e3'⟩ := hw'
                have e3 : decide ((2305843009213693951 : Int) ≤ (v : Nat)) = false := by
                  rw [decide_eq_false_iff_not] at e3' ⊢; omega
                go_wp2
                go_roundw
                case rel => exact ⟨k + 1, by omega, by go_num, by rw [HW.out], T3, hol.trans hol2⟩
                case measure => simp [intOf]; omega
            · have hkl : k < i := by omega
              obtain ⟨b', off', z', v', ha, Hq, g1, g2⟩ := ((rd.mono hol).mono hol2).at (i := k) (by rw [HL.out]; omega)
              obtain ⟨rfl, rfl⟩ : b = b' ∧ off = off' := by simpa using ha
              have hkk : (0 : Int) ≤ k := by omega
              have hkk2 : (k : Int) < i := by omega
              have hkk3 : (k : Int) < n := by omega
              have AT := hide (at_of Hp.out)
              have AQ := hide (at_of Hq.out)
              by_cases he : z = z'
              · have HB : Hid (anyTwice ps n = true) := by
                  refine anyTwice_le (k := i + 1) (by omega) ?_
                  rw [anyTwice, twice_le (k := k + 1) (m := i) (by omega) (by rw [twice, AT.out.1, AQ.out.1, he]; simp)]
                  simp
                have e1 : (z == z') = true := by rw [beq_iff_eq]; exact he
                go_wp2_with fail
                go_quiet (fail)
                go_wp2
                go_ret
                rw [HE2.out, if_pos HB.out]
                exact ⟨rfl, (hol.trans hol2).drewN _⟩
              · have e1 : (z == z') = false := by rw [beq_eq_false_iff_ne]; exact he
                go_wp2_with fail
                go_quiet (fail)
                go_wp2
                go_roundw
                case rel =>
                  refine ⟨k + 1, by omega, by go_num, ?_, hol2.drewN _⟩
                  show twice ps i (k + 1) = false
                  rw [twice, T2.out, AT.out.1, AQ.out.1, e1]; rfl
                case measure => simp [intOf]; omega
end Go.Proofs.Ythfaahngnnfefaa
