/-
  Shares of a number: what splitting, joining, fitting and other coefficients come to. Plain mathematics: nothing of the program.
-/
import Derived.Test.YthfaahngnnfefaaPtsTo
namespace Go.Proofs.Ythfaahngnnfefaa
open Go.RowKit M Pm
set_option linter.unusedVariables false

theorem sound_err {ps : List Pt} (S : SoundP ps) : errOf ps = 0 := by
  unfold errOf
  rw [if_neg (by have := S.pos; have := S.le; omega), anyTwice_of S.apart, anyWide_of S.inr]
  rfl
theorem at_take {ps : List Pt} {k i : Nat} (h : i < k) : at1 (ps.take k) i = at1 ps i ∧ at2 (ps.take k) i = at2 ps i := by
  unfold at1 at2
  rw [List.getD_eq_getElem?_getD, List.getD_eq_getElem?_getD, List.getElem?_take, if_pos h]
  exact ⟨rfl, rfl⟩
theorem SoundP.take {ps : List Pt} (S : SoundP ps) {k : Nat} (h0 : 0 < k) (hk : k ≤ ps.length) : SoundP (ps.take k) := by
  have hl : (ps.take k).length = k := by rw [List.length_take]; omega
  refine ⟨by omega, by have := S.le; omega, fun i j hi hj hij => ?_, fun i hi => ?_⟩
  · rw [hl] at hi hj
    rw [(at_take hi).1, (at_take hj).1]
    exact S.apart i j (by omega) (by omega) hij
  · rw [hl] at hi
    rw [(at_take hi).1, (at_take hi).2]
    exact S.inr i (by omega)
theorem ptsTo_sound (c : List Nat) {k : Nat} (h1 : 1 ≤ k) (h2 : k ≤ 64) : SoundP (ptsTo c k) := sound_of (ptsTo_err c h1 h2)
theorem ptsTo_at (c : List Nat) {k j : Nat} (h : j < k) : at1 (ptsTo c k) j = ((j + 1 : Nat) : Int) ∧ at2 (ptsTo c k) j = evN c (j + 1) := at_of (ptsTo_get c h)
theorem ptsTo_bounds (c : List Nat) {k : Nat} (h : k ≤ 64) : ∀ p ∈ ptsTo c k, -9223372036854775808 ≤ p.1 ∧ p.1 ≤ 9223372036854775807 ∧ p.2 < 18446744073709551616 := by
  intro p hp
  obtain ⟨j, hj, rfl⟩ := List.mem_map.1 hp
  have := List.mem_range.1 hj
  have := evN_lt c (j + 1)
  refine ⟨?_, ?_, ?_⟩
  · show (-9223372036854775808 : Int) ≤ ((j + 1 : Nat) : Int); omega
  · show ((j + 1 : Nat) : Int) ≤ 9223372036854775807; omega
  · show evN c (j + 1) < 18446744073709551616; omega
theorem ptsTo_take (c : List Nat) {k m : Nat} (h : m ≤ k) : (ptsTo c k).take m = ptsTo c m := by
  unfold ptsTo
  rw [← List.map_take, List.take_range, Nat.min_eq_left h]

def anyBig (cs : List Nat) : Nat → Bool
  | 0 => false
  | k + 1 => anyBig cs k || decide (2305843009213693951 ≤ cs.getD k 0)
theorem anyBig_no {cs : List Nat} (h : anyBig cs cs.length = false) : ∀ y ∈ cs, y < 2305843009213693951 := by
  have key : ∀ k, anyBig cs k = false → ∀ i, i < k → cs.getD i 0 < 2305843009213693951 := by
    intro k
    induction k with
    | zero => intro _ i hi; omega
    | succ k ih =>
      intro hk i hi
      rw [anyBig, Bool.or_eq_false_iff] at hk
      by_cases e : i = k
      · subst e
        have := hk.2
        simp at this
        simpa using this
      · exact ih hk.1 i (by omega)
  intro y hy
  obtain ⟨i, hi, rfl⟩ := List.getElem_of_mem hy
  have := key _ h i hi
  simpa [hi] using this
/-- Split's error. -/
def splitErr (secret : Nat) (enough n : Int) (cs : List Nat) : Nat :=
  if n < 1 ∨ 64 < n ∨ enough < 1 ∨ n < enough ∨ (cs.length : Int) ≠ enough - 1 then 1 else if 2305843009213693951 ≤ secret then 4 else numE (anyBig cs cs.length)
theorem numE_cases (b : Bool) : (numE b = 0 ∧ b = false) ∨ (numE b = 4 ∧ b = true) := by cases b <;> simp [numE]
theorem split_ok {secret : Nat} {enough n : Int} {cs : List Nat} (h : splitErr secret enough n cs = 0) : 1 ≤ n ∧ n ≤ 64 ∧ 1 ≤ enough ∧ enough ≤ n ∧ (cs.length : Int) = enough - 1 ∧ secret < 2305843009213693951 ∧ ∀ y ∈ cs, y < 2305843009213693951 := by
  unfold splitErr at h
  split at h
  · cases h
  · rename_i h1
    split at h
    · cases h
    · rename_i h2
      rcases numE_cases (anyBig cs cs.length) with ⟨_, h3⟩ | ⟨h3, _⟩
      · exact ⟨by omega, by omega, by omega, by omega, by omega, by omega, anyBig_no h3⟩
      · rw [h3] at h; cases h
/-- Join's error, and its number. -/
def joinErr (enough : Int) (ps : List Pt) : Nat :=
  if enough < 1 ∨ 64 < enough then 1 else if errOf ps ≠ 0 then errOf ps else if (ps.length : Int) < enough then 12 else 0
def joinN (enough : Int) (ps : List Pt) : Nat := if joinErr enough ps = 0 then lagN (ps.take enough.toNat) 0 enough.toNat else 0
theorem join_ok {enough : Int} {ps : List Pt} (h : joinErr enough ps = 0) : 1 ≤ enough ∧ enough ≤ ps.length ∧ SoundP ps := by
  unfold joinErr at h
  split at h
  · cases h
  · split at h
    · contradiction
    · rename_i h1 h2
      split at h
      · cases h
      · exact ⟨by omega, by omega, sound_of (by simpa using h2)⟩
theorem join_err {enough : Int} {ps : List Pt} (h1 : 1 ≤ enough) (h2 : enough ≤ ps.length) (S : SoundP ps) : joinErr enough ps = 0 := by
  unfold joinErr
  have := S.le
  rw [if_neg (by omega), if_neg (by rw [sound_err S]; simp), if_neg (by omega)]
/-- Do all points lie on the polynomial through the first ones? -/
def fits (ps : List Pt) (m : Nat) : Nat → Bool
  | 0 => true
  | i + 1 => fits ps m i && (lagN (ps.take m) (at1 ps i).toNat m == at2 ps i)
def fitsB (enough : Int) (ps : List Pt) : Bool := if joinErr enough ps = 0 then fits ps enough.toNat ps.length else false
theorem fits_iff (ps : List Pt) (m : Nat) : ∀ k, fits ps m k = true ↔ ∀ i, i < k → lagN (ps.take m) (at1 ps i).toNat m = at2 ps i
  | 0 => by simp [fits]
  | k + 1 => by
    rw [fits, Bool.and_eq_true, fits_iff ps m k, beq_iff_eq]
    constructor
    · rintro ⟨h1, h2⟩ i hi
      by_cases e : i = k
      · rw [e]; exact h2
      · exact h1 i (by omega)
    · intro h
      exact ⟨fun i hi => h i (by omega), h k (by omega)⟩
/-- Points of one polynomial of no more numbers than are enough: the number is its value, and all fit. -/
structure On (s : List Nat) (ps : List Pt) : Prop where
  all : ∀ i, i < ps.length → evN s (at1 ps i).toNat = at2 ps i
theorem on_lag {s : List Nat} {ps : List Pt} {m : Nat} (S : SoundP ps) (h0 : 0 < m) (hm : m ≤ ps.length) (hs : s.length ≤ m) (O : On s ps) (x : Nat) : lagN (ps.take m) x m = evN s x := by
  have S' := S.take h0 hm
  have hl : (ps.take m).length = m := by rw [List.length_take]; omega
  refine (through_ev hl S' hs (fun j hj => ?_) x).symm
  unfold ptX ptY
  rw [(at_take hj).1, (at_take hj).2, ← O.all j (by omega), F_evN]
theorem on_fits {s : List Nat} {ps : List Pt} {m : Nat} (S : SoundP ps) (h0 : 0 < m) (hm : m ≤ ps.length) (hs : s.length ≤ m) (O : On s ps) : fits ps m ps.length = true :=
  (fits_iff ps m _).2 fun i hi => (on_lag S h0 hm hs O _).trans (O.all i hi)
theorem on_ptsTo (c : List Nat) (k : Nat) : On c (ptsTo c k) := ⟨fun i hi => by
  rw [ptsTo_length] at hi
  rw [(ptsTo_at c hi).1, (ptsTo_at c hi).2]
  rfl⟩
theorem ev_head (c : Nat) (r : List Nat) (hc : c < 2305843009213693951) : evN (c :: r) 0 = c := by
  unfold evN
  simp only [List.map_cons, ev, F_zero]
  rw [show F c + 0 * ev (r.map F) 0 = F c by grind, F_val, Nat.mod_eq_of_lt hc]

/-- Other's error. -/
def otherErr (secret : Nat) (enough : Int) (ps : List Pt) : Nat :=
  if enough < 1 ∨ 64 < enough ∨ (ps.length : Int) ≠ enough - 1 then 1 else if 2305843009213693951 ≤ secret then 4 else if ps.length = 0 then 0 else errOf ps
theorem other_ok {secret : Nat} {enough : Int} {ps : List Pt} (h : otherErr secret enough ps = 0) : 1 ≤ enough ∧ enough ≤ 64 ∧ (ps.length : Int) = enough - 1 ∧ secret < 2305843009213693951 ∧ (ps.length ≠ 0 → SoundP ps) := by
  unfold otherErr at h
  split at h
  · cases h
  · rename_i h1
    split at h
    · cases h
    · rename_i h2
      refine ⟨by omega, by omega, by omega, by omega, fun h3 => ?_⟩
      rw [if_neg h3] at h
      exact sound_of h
theorem other_err {secret : Nat} {enough : Int} {ps : List Pt} (h1 : 1 ≤ enough) (h2 : enough ≤ 64) (h3 : (ps.length : Int) = enough - 1) (h4 : secret < 2305843009213693951) (h5 : ps.length ≠ 0 → SoundP ps) : otherErr secret enough ps = 0 := by
  unfold otherErr
  rw [if_neg (by omega), if_neg (by omega)]
  split
  · rfl
  · rename_i h; exact sound_err (h5 h)

/-- Two polynomials with the same number at 0, of one length, that have the same values at as many places as they have other numbers, none twice and none 0, are one. -/
theorem same_rest {c d : List Nat} {secret : Nat} {xs : List Nat} (hl : c.length = d.length) (hx : xs.length = c.length) (bc : ∀ y ∈ c, y < 2305843009213693951) (bd : ∀ y ∈ d, y < 2305843009213693951)
    (hn : (0 :: xs).Nodup) (hb : ∀ x ∈ xs, x < 2305843009213693951) (h : ∀ x ∈ xs, evN (secret :: c) x = evN (secret :: d) x) : c = d := by
  have hnd : ((0 :: xs).map F).Nodup := by
    rw [List.nodup_iff_pairwise_ne, List.pairwise_map]
    refine List.Pairwise.imp_of_mem ?_ (List.nodup_iff_pairwise_ne.1 hn)
    intro a b ha hb' hne e
    have la : a < 2305843009213693951 := by
      rcases List.mem_cons.1 ha with rfl | ha
      · omega
      · exact hb a ha
    have lb : b < 2305843009213693951 := by
      rcases List.mem_cons.1 hb' with rfl | hb'
      · omega
      · exact hb b hb'
    exact hne (F_inj la lb e)
  have hev : ∀ x ∈ (0 :: xs).map F, ev ((secret :: c).map F) x = ev ((secret :: d).map F) x := by
    intro x hx'
    obtain ⟨y, hy, rfl⟩ := List.mem_map.1 hx'
    rcases List.mem_cons.1 hy with rfl | hy
    · simp only [List.map_cons, ev, F_zero]
      grind
    · rw [← F_evN, ← F_evN, h y hy]
  have hco := same_co hnd (by simp; omega) (by simp; omega) hev
  refine map_F_inj c d bc bd ?_
  apply List.ext_getElem (by simpa using hl)
  intro i h1 h2
  have := hco (i + 1)
  simpa [co, h1, h2, show i < c.length by simpa using h1, show i < d.length by simpa using h2] using this
/-- One point with another value does not fit: all others fix the polynomial. -/
theorem fits_bent {s : List Nat} {ps : List Pt} {m k : Nat} (S : SoundP ps) (h0 : 0 < m) (hm : ps.length = m + 1) (hs : s.length ≤ m) (hk : k < ps.length) (hon : ∀ i, i < ps.length → i ≠ k → evN s (at1 ps i).toNat = at2 ps i) :
    fits ps m ps.length = decide (evN s (at1 ps k).toNat = at2 ps k) := by
  by_cases e : evN s (at1 ps k).toNat = at2 ps k
  · rw [decide_eq_true e]
    refine on_fits S h0 (by omega) hs ⟨fun i hi => ?_⟩
    by_cases hik : i = k
    · rw [hik]; exact e
    · exact hon i hi hik
  · rw [decide_eq_false e]
    cases hf : fits ps m ps.length with
    | false => rfl
    | true =>
      exfalso
      have hall := (fits_iff ps m _).1 hf
      have hl : (ps.take m).length = m := by rw [List.length_take]; omega
      have ap := apart_X S
      obtain ⟨Q, hQ⟩ : ∃ Q, Q = lagL (ptX (ps.take m)) (ptY (ps.take m)) m m := ⟨_, rfl⟩
      have hQl : Q.length ≤ m := by rw [hQ]; exact lagL_length _ _ m m (Nat.le_refl _)
      have hQe : ∀ i, i < ps.length → ev Q (ptX ps i) = F (at2 ps i) := by
        intro i hi
        rw [hQ, ev_lagL]
        have := hall i hi
        unfold lagN at this
        rw [hl] at this
        rw [← this, F_surj]
        rfl
      have hsE : ∀ i, i < ps.length → i ≠ k → ev (s.map F) (ptX ps i) = F (at2 ps i) := by
        intro i hi hik
        rw [← hon i hi hik, F_evN]
        rfl
      have hnd : (((List.range ps.length).erase k).map (ptX ps)).Nodup := by
        rw [List.nodup_iff_pairwise_ne, List.pairwise_map]
        refine List.Pairwise.imp_of_mem ?_ (List.nodup_iff_pairwise_ne.1 (List.nodup_range.erase k))
        intro a b ha hb hne
        exact ap a b (List.mem_range.1 (List.mem_of_mem_erase ha)) (List.mem_range.1 (List.mem_of_mem_erase hb)) hne
      have hlen : (((List.range ps.length).erase k).map (ptX ps)).length = m := by
        rw [List.length_map, List.length_erase_of_mem (List.mem_range.2 hk), List.length_range]; omega
      have hsame := same_ev hnd (l := Q) (m := s.map F) (by omega) (by rw [List.length_map]; omega) (fun x hx => by
        obtain ⟨i, hi, rfl⟩ := List.mem_map.1 hx
        have h1 := List.mem_range.1 (List.mem_of_mem_erase hi)
        have h2 : i ≠ k := by
          rintro rfl
          exact (List.Nodup.not_mem_erase List.nodup_range) hi
        rw [hQe i h1, hsE i h1 h2]) (ptX ps k)
      rw [hQe k hk] at hsame
      apply e
      have h3 := (S.inr k hk).2.2
      apply F_inj (evN_lt _ _) h3
      rw [F_evN, hsame]
      rfl

/-- The same points in another order. -/
def turned (c : List Nat) (n from_ k : Nat) : List Pt := (List.range k).map fun i => (ptsTo c n).getD ((n - 1 - i + from_) % n) (0, 0)
theorem turned_length (c : List Nat) (n f k : Nat) : (turned c n f k).length = k := by simp [turned]
theorem turned_step (c : List Nat) (n f k : Nat) : turned c n f (k + 1) = turned c n f k ++ [(ptsTo c n).getD ((n - 1 - k + f) % n) (0, 0)] := by simp [turned, List.range_succ]
theorem turned_get (c : List Nat) {n f k i : Nat} (h0 : 0 < n) (h : i < k) : (turned c n f k)[i]? = some ((((n - 1 - i + f) % n + 1 : Nat) : Int), evN c ((n - 1 - i + f) % n + 1)) := by
  have hlt : (n - 1 - i + f) % n < n := Nat.mod_lt _ h0
  have e := ptsTo_get c hlt
  simp only [turned, List.getElem?_map, List.getElem?_range h, Option.map_some]
  rw [List.getD_eq_getElem?_getD, e, Option.getD_some]
theorem turned_inj {n f i j : Nat} (hi : i < n) (hj : j < n) (h : (n - 1 - i + f) % n = (n - 1 - j + f) % n) : i = j := by
  have h0 : 0 < n := by omega
  rcases Nat.lt_trichotomy i j with hlt | heq | hgt
  · exfalso
    obtain ⟨d, hd⟩ : ∃ d, n - 1 - i + f = (n - 1 - j + f) + d := ⟨j - i, by omega⟩
    have hdn : 0 < d ∧ d < n := by omega
    rw [hd] at h
    have := Nat.mod_add_mod (n - 1 - j + f) n d
    have h1 := Nat.mod_lt (n - 1 - j + f) h0
    generalize (n - 1 - j + f) % n = r at *
    rw [← this] at h
    by_cases hb : r + d < n
    · rw [Nat.mod_eq_of_lt hb] at h; omega
    · rw [Nat.mod_eq_sub_mod (by omega), Nat.mod_eq_of_lt (by omega)] at h; omega
  · exact heq
  · exfalso
    obtain ⟨d, hd⟩ : ∃ d, n - 1 - j + f = (n - 1 - i + f) + d := ⟨i - j, by omega⟩
    have hdn : 0 < d ∧ d < n := by omega
    rw [hd] at h
    have := Nat.mod_add_mod (n - 1 - i + f) n d
    have h1 := Nat.mod_lt (n - 1 - i + f) h0
    generalize (n - 1 - i + f) % n = r at *
    rw [← this] at h
    by_cases hb : r + d < n
    · rw [Nat.mod_eq_of_lt hb] at h; omega
    · rw [Nat.mod_eq_sub_mod (by omega), Nat.mod_eq_of_lt (by omega)] at h; omega
theorem turned_sound (c : List Nat) {n f : Nat} (h0 : 0 < n) (h64 : n ≤ 64) {k : Nat} (hk0 : 0 < k) (hk : k ≤ n) : SoundP (turned c n f k) := by
  refine ⟨by rw [turned_length]; exact hk0, by rw [turned_length]; omega, fun i j hi hj hij => ?_, fun i hi => ?_⟩
  · rw [turned_length] at hi hj
    rw [(at_of (turned_get c h0 hi)).1, (at_of (turned_get c h0 hj)).1]
    intro e
    exact hij (turned_inj (f := f) (by omega) (by omega) (Nat.succ.inj (Int.ofNat.inj e)))
  · rw [turned_length] at hi
    rw [(at_of (turned_get c h0 hi)).1, (at_of (turned_get c h0 hi)).2]
    have := Nat.mod_lt (n - 1 - i + f) h0
    exact ⟨by omega, by omega, evN_lt _ _⟩
theorem turned_on (c : List Nat) {n f : Nat} (h0 : 0 < n) (k : Nat) : On c (turned c n f k) := ⟨fun i hi => by
  rw [turned_length] at hi
  rw [(at_of (turned_get c h0 hi)).1, (at_of (turned_get c h0 hi)).2]
  rfl⟩
end Go.Proofs.Ythfaahngnnfefaa
