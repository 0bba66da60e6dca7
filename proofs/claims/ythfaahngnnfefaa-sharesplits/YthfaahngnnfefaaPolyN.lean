/-
  Polynomials as the program has them: lists of numbers of 64 bits, their values, trimmed; points.
-/
import Derived.Test.YthfaahngnnfefaaPolyMath
import Derived.Test.YthfaahngnnfefaaMem
namespace Go.Proofs.Ythfaahngnnfefaa
open Go.RowKit M Pm
set_option linter.unusedVariables false

def evN (l : List Nat) (x : Nat) : Nat := (ev (l.map F) (F x)).val
theorem evN_lt (l : List Nat) (x : Nat) : evN l x < 2305843009213693951 := (ev (l.map F) (F x)).isLt
theorem F_evN (l : List Nat) (x : Nat) : F (evN l x) = ev (l.map F) (F x) := F_surj _
theorem addP_val (a b : Nat) : addP a b = (F a + F b).val := by rw [← F_addP]; exact (Nat.mod_eq_of_lt (addP_lt a b)).symm
theorem mulP_val (a b : Nat) : mulP a b = (F a * F b).val := by rw [← F_mulP]; exact (Nat.mod_eq_of_lt (mulP_lt a b)).symm
theorem subP_val (a b : Nat) : subP a b = (F a - F b).val := by rw [← F_subP]; exact (Nat.mod_eq_of_lt (subP_lt a b)).symm
theorem md_val (a : Nat) : md a = (F a).val := rfl
theorem val_F {a : Nat} {x : Fp} (h : a < 2305843009213693951) (e : F a = x) : a = x.val := by
  rw [← e]; exact (Nat.mod_eq_of_lt h).symm
/-- A power of a place. -/
def powN (x k : Nat) : Nat := (F x ^ k).val
theorem powN_lt (x k : Nat) : powN x k < 2305843009213693951 := (F x ^ k).isLt
theorem powN_zero (x : Nat) : powN x 0 = 1 := by
  have : (F x ^ 0 : Fp) = 1 := by grind
  unfold powN; rw [this]; rfl
theorem powN_step (x k : Nat) : mulP (powN x k) x = powN x (k + 1) := by
  rw [mulP_val]
  unfold powN
  rw [F_surj]
  congr 1
theorem evN_nil (x : Nat) : evN [] x = 0 := rfl
theorem evN_step {l : List Nat} {k c : Nat} (x : Nat) (h : l[k]? = some c) : addP (evN (l.take k) x) (mulP c (powN x k)) = evN (l.take (k + 1)) x := by
  have hk : k < l.length := (List.getElem?_eq_some_iff.1 h).1
  rw [addP_val, F_mulP, F_evN]
  unfold evN powN
  rw [F_surj, List.take_add_one, h]
  simp only [Option.toList, List.map_append, List.map_cons, List.map_nil, ev_append, List.length_map, List.length_take, Nat.min_eq_left (Nat.le_of_lt hk), ev]
  congr 1
  grind

/-- How many numbers are left of the first k, as the loop counts. -/
def lastK (l : List Nat) : Nat → Nat
  | 0 => 0
  | k + 1 => if md (l.getD k 0) = 0 then lastK l k else k + 1
theorem lastK_le (l : List Nat) : ∀ k, lastK l k ≤ k
  | 0 => Nat.le_refl _
  | k + 1 => by
    have := lastK_le l k
    rw [lastK]; split <;> omega
def trimN (l : List Nat) : List Nat := (l.take (lastK l l.length)).map md
theorem trimN_length (l : List Nat) : (trimN l).length = lastK l l.length := by
  have := lastK_le l l.length
  simp [trimN]; omega
theorem lastK_zero (l : List Nat) : ∀ k i, lastK l k ≤ i → i < k → md (l.getD i 0) = 0
  | 0, i, _, h => by omega
  | k + 1, i, h1, h2 => by
    rw [lastK] at h1
    split at h1
    · rename_i hk
      by_cases hi : i = k
      · rw [hi]; exact hk
      · exact lastK_zero l k i h1 (by omega)
    · omega
theorem lastK_last (l : List Nat) : ∀ k, 0 < lastK l k → md (l.getD (lastK l k - 1) 0) ≠ 0
  | 0, h => by simp [lastK] at h
  | k + 1, h => by
    by_cases hk : md (l.getD k 0) = 0
    · rw [lastK, if_pos hk] at h ⊢
      exact lastK_last l k h
    · rw [lastK, if_neg hk]
      exact hk
theorem map_F_md (l : List Nat) : (l.map md).map F = l.map F := by
  rw [List.map_map]
  exact List.map_congr_left fun x _ => F_md x
theorem trimN_lt (l : List Nat) : ∀ x ∈ trimN l, x < 2305843009213693951 := by
  intro x hx
  obtain ⟨y, _, rfl⟩ := List.mem_map.1 hx
  exact md_lt y
theorem trimN_ends (l : List Nat) : Tight ((trimN l).map F) := by
  intro c hc
  have hle := lastK_le l l.length
  rw [trimN, map_F_md, List.getLast?_eq_getElem?] at hc
  have hpos : 0 < lastK l l.length := by
    apply Nat.pos_of_ne_zero
    intro h0
    rw [h0] at hc
    simp at hc
  have := lastK_last l l.length hpos
  rw [List.length_map, List.length_take, Nat.min_eq_left hle, List.getElem?_map, List.getElem?_take, if_pos (by omega), List.getElem?_eq_getElem (by omega)] at hc
  rw [List.getD_eq_getElem?_getD, List.getElem?_eq_getElem (by omega)] at this
  simp only [Option.map_some, Option.some.injEq] at hc
  rw [← hc]
  intro e
  exact this (F_eq_zero.1 e)
theorem trimN_ev (l : List Nat) (x : Fp) : ev ((trimN l).map F) x = ev (l.map F) x := by
  rw [trimN, map_F_md]
  have hle := lastK_le l l.length
  conv => rhs; rw [← List.take_append_drop (lastK l l.length) l]
  rw [List.map_append, ev_append, ev_zero (l := (l.drop (lastK l l.length)).map F)]
  · grind
  · intro c hc
    obtain ⟨y, hy, rfl⟩ := List.mem_map.1 hc
    obtain ⟨i, hi, rfl⟩ := List.getElem_of_mem hy
    rw [List.length_drop] at hi
    have := lastK_zero l l.length (lastK l l.length + i) (by omega) (by omega)
    rw [F_eq_zero]
    rw [List.getD_eq_getElem?_getD, List.getElem?_eq_getElem (by omega)] at this
    simpa using this
/-- Lists of numbers below P, without 0 at the end, that have the same values are the same. -/
theorem same_nat {l m : List Nat} {n : Nat} (hn : n < 2305843009213693951) (hl : l.length ≤ n) (hm : m.length ≤ n) (bl : ∀ x ∈ l, x < 2305843009213693951) (bm : ∀ x ∈ m, x < 2305843009213693951) (h : ∀ x, ev (l.map F) x = ev (m.map F) x) (el : Tight (l.map F)) (em : Tight (m.map F)) : l = m := by
  have e := same_of_ev hn (by simpa using hl) (by simpa using hm) h el em
  have key : ∀ a b : List Nat, (∀ x ∈ a, x < 2305843009213693951) → (∀ x ∈ b, x < 2305843009213693951) → a.map F = b.map F → a = b := by
    intro a
    induction a with
    | nil => intro b _ _ h; cases b with
      | nil => rfl
      | cons _ _ => simp at h
    | cons c r ih =>
      intro b ha hb h
      cases b with
      | nil => simp at h
      | cons d s =>
        simp only [List.map_cons, List.cons.injEq] at h
        rw [F_inj (ha c (by simp)) (hb d (by simp)) h.1, ih s (fun x hx => ha x (by simp [hx])) (fun x hx => hb x (by simp [hx])) h.2]
  exact key l m bl bm e
/-- What is trimmed and below P already stays as it is. -/
theorem trimN_self {l : List Nat} (hn : l.length < 2305843009213693951) (bl : ∀ x ∈ l, x < 2305843009213693951) (el : Tight (l.map F)) : trimN l = l := by
  refine same_nat hn (by rw [trimN_length]; exact lastK_le _ _) (Nat.le_refl _) (trimN_lt l) bl (trimN_ev l) (trimN_ends l) el

/-- Points: places and values. -/
abbrev Pt := Int × Nat
def Pts (w : World) (a : Option Addr) (ps : List Pt) : Prop :=
  ∀ i p, ps[i]? = some p → ∃ b off, a = some ⟨b, off, none⟩ ∧ w.cell? ⟨b, off + i * 2, none⟩ = some (.int .i64 p.1) ∧ w.cell? ⟨b, off + i * 2 + 1, none⟩ = some (.int .u64 (p.2 : Nat))
theorem Pts.mono {w w' : World} {a : Option Addr} {ps : List Pt} (h : Pts w a ps) (o : Old w w') : Pts w' a ps := by
  intro i p hp
  obtain ⟨b, off, ha, h1, h2⟩ := h i p hp
  exact ⟨b, off, ha, (Below.cell o (World.block_lt_of_cell? w _ h1)).trans h1, (Below.cell o (World.block_lt_of_cell? w _ h2)).trans h2⟩
theorem Pts.at {w : World} {a : Option Addr} {ps : List Pt} (h : Pts w a ps) {i : Nat} (hi : i < ps.length) :
    ∃ b off z v, a = some ⟨b, off, none⟩ ∧ Hid (ps[i]? = some (z, v)) ∧ w.cell? ⟨b, off + i * 2, none⟩ = some (.int .i64 z) ∧ w.cell? ⟨b, off + i * 2 + 1, none⟩ = some (.int .u64 (v : Nat)) := by
  obtain ⟨b, off, ha, h1, h2⟩ := h i ps[i] (by simp [hi])
  exact ⟨b, off, ps[i].1, ps[i].2, ha, by show ps[i]? = some _; simp [hi], h1, h2⟩
theorem Pts.take {w : World} {a : Option Addr} {ps : List Pt} (h : Pts w a ps) (m : Nat) : Pts w a (ps.take m) := by
  intro i p hp
  rw [List.getElem?_take] at hp
  split at hp
  · exact h i p hp
  · cases hp
end Go.Proofs.Ythfaahngnnfefaa
