/-
  The least power of a number that is 1, modulo 2^61 - 1: what is left of 2^61 - 2 when no prime can be taken away any more.
-/
import Derived.Test.YtjbpnhibgafdmaaDoorField
namespace Go.Proofs.YtjbpnhibgafdmaaDoor.M
set_option linter.unusedVariables false

def facs : List Nat := [2, 3, 3, 5, 5, 7, 11, 13, 31, 41, 61, 151, 331, 1321]
def stepO (a o q : Nat) : Nat := if powP a (o / q) = 1 then o / q else o
def foldO (a : Nat) (L : List Nat) (o : Nat) : Nat := L.foldl (stepO a) o
def ordP (a : Nat) : Nat := foldO a facs 2305843009213693950
def Done (a q o : Nat) : Prop := q ∣ o → powP a (o / q) ≠ 1

theorem powP_up (a d n : Nat) (hd : d ∣ n) (h : powP a d = 1) : powP a n = 1 := by
  obtain ⟨k, rfl⟩ := hd
  rw [powP_mul, h, powP_one_base]

theorem Done.mono {a q o o' : Nat} (h : Done a q o) (ho : 0 < o) (hd : o' ∣ o) : Done a q o' := by
  intro hq he
  obtain ⟨k, rfl⟩ := hd
  obtain ⟨m, rfl⟩ := hq
  rcases Nat.eq_zero_or_pos q with rfl | hp
  · simp at ho
  · refine h ⟨m * k, by rw [Nat.mul_assoc]⟩ ?_
    rw [Nat.mul_div_cancel_left _ hp] at he
    rw [Nat.mul_assoc, Nat.mul_div_cancel_left _ hp]
    exact powP_up a m _ ⟨k, rfl⟩ he

theorem foldO_spec (a : Nat) : ∀ (L : List Nat) (o : Nat), 0 < o → powP a o = 1 → L.prod ∣ o →
    foldO a L o ∣ o ∧ powP a (foldO a L o) = 1 ∧ ∀ q, Done a q (foldO a L o) ∨ foldO a L o * q ^ L.count q ∣ o := by
  intro L
  induction L with
  | nil => intro o h0 h1 _; exact ⟨Nat.dvd_refl _, h1, fun q => Or.inr (by simp [foldO])⟩
  | cons x L ih =>
    intro o h0 h1 hd
    obtain ⟨s, hs⟩ := hd
    rw [List.prod_cons] at hs
    have hx : 0 < x := by
      rcases Nat.eq_zero_or_pos x with rfl | h
      · simp at hs; omega
      · exact h
    have hq : o / x = L.prod * s := by rw [hs, Nat.mul_assoc, Nat.mul_div_cancel_left _ hx]
    have hox : o = (o / x) * x := by rw [hq]; rw [hs]; rw [Nat.mul_assoc, Nat.mul_comm]
    by_cases hp : powP a (o / x) = 1
    · have e : foldO a (x :: L) o = foldO a L (o / x) := by simp [foldO, stepO, hp]
      have h0' : 0 < o / x := by
        rcases Nat.eq_zero_or_pos (o / x) with h | h
        · rw [h] at hox; omega
        · exact h
      obtain ⟨i1, i2, i3⟩ := ih (o / x) h0' hp ⟨s, hq⟩
      rw [e]
      refine ⟨Nat.dvd_trans i1 ⟨x, hox⟩, i2, fun q => ?_⟩
      rcases i3 q with h | h
      · exact Or.inl h
      · refine Or.inr ?_
        by_cases hxq : x = q
        · subst hxq
          rw [List.count_cons_self, Nat.pow_succ, ← Nat.mul_assoc]
          exact Nat.dvd_trans (Nat.mul_dvd_mul_right h x) ⟨1, by rw [Nat.mul_one]; exact hox⟩
        · rw [List.count_cons_of_ne hxq]
          exact Nat.dvd_trans h ⟨x, hox⟩
    · have e : foldO a (x :: L) o = foldO a L o := by simp [foldO, stepO, hp]
      obtain ⟨i1, i2, i3⟩ := ih o h0 h1 ⟨x * s, by rw [hs]; rw [Nat.mul_comm x, Nat.mul_assoc]⟩
      rw [e]
      refine ⟨i1, i2, fun q => ?_⟩
      by_cases hxq : x = q
      · subst hxq
        exact Or.inl (Done.mono (fun _ => hp) h0 i1)
      · rw [List.count_cons_of_ne hxq]
        exact i3 q

theorem facs_prod : facs.prod = 2305843009213693950 := by decide +kernel

theorem ord_div (a : Nat) (h : a % 2305843009213693951 ≠ 0) : ordP a ∣ 2305843009213693950 :=
  (foldO_spec a facs _ (by decide) (fermat a h) ⟨1, by rw [facs_prod]⟩).1
theorem ord_one (a : Nat) (h : a % 2305843009213693951 ≠ 0) : powP a (ordP a) = 1 :=
  (foldO_spec a facs _ (by decide) (fermat a h) ⟨1, by rw [facs_prod]⟩).2.1
theorem ord_pos (a : Nat) (h : a % 2305843009213693951 ≠ 0) : 1 ≤ ordP a :=
  Nat.pos_of_dvd_of_pos (ord_div a h) (by decide)
theorem ord_le (a : Nat) (h : a % 2305843009213693951 ≠ 0) : ordP a ≤ 2305843009213693950 :=
  Nat.le_of_dvd (by decide) (ord_div a h)

theorem ord_done (a q : Nat) (h : a % 2305843009213693951 ≠ 0) (hq : (2305843009213693950 % q ^ (facs.count q + 1)) ≠ 0) : Done a q (ordP a) := by
  rcases (foldO_spec a facs _ (by decide) (fermat a h) ⟨1, by rw [facs_prod]⟩).2.2 q with h1 | h1
  · exact h1
  · intro hd
    exact absurd (Nat.mod_eq_zero_of_dvd (Nat.dvd_trans (by
      rw [Nat.pow_succ, Nat.mul_comm]
      exact Nat.mul_dvd_mul_right hd _) h1)) hq

def prms : List Nat := [2, 3, 5, 7, 11, 13, 31, 41, 61, 151, 331, 1321]
theorem prms_all : ∀ q ∈ prms, (2305843009213693950 % q ^ (facs.count q + 1)) ≠ 0 := by decide +kernel
theorem prms_done (a q : Nat) (h : a % 2305843009213693951 ≠ 0) (hq : q ∈ prms) : Done a q (ordP a) := ord_done a q h (prms_all q hq)

theorem ord_least (a k : Nat) (h : a % 2305843009213693951 ≠ 0) (h0 : 0 < k) (hk : k < ordP a) : powP a k ≠ 1 := by
  intro he
  have hg := one_gcd a k (ordP a) he (ord_one a h)
  have hgd : Nat.gcd k (ordP a) ∣ ordP a := Nat.gcd_dvd_right _ _
  have hgk : Nat.gcd k (ordP a) ≤ k := Nat.le_of_dvd h0 (Nat.gcd_dvd_left _ _)
  obtain ⟨m, hm⟩ := hgd
  have hm1 : m ≠ 1 := by
    rintro rfl
    omega
  have hmd : m ∣ 2305843009213693950 := Nat.dvd_trans ⟨_, hm.trans (Nat.mul_comm _ _)⟩ (ord_div a h)
  have hp := some_prime m hmd hm1
  have key : ∀ q, q ∈ prms → 0 < q → q ∣ m → False := by
    rintro q hq hq0 ⟨t, rfl⟩
    refine prms_done a q h hq ⟨Nat.gcd k (ordP a) * t, ?_⟩ ?_
    · rw [Nat.mul_left_comm]; exact hm
    · refine powP_up a _ _ ⟨t, ?_⟩ hg
      have e : ordP a = q * (Nat.gcd k (ordP a) * t) := by rw [Nat.mul_left_comm]; exact hm
      exact (congrArg (· / q) e).trans (Nat.mul_div_cancel_left _ hq0)
  rcases hp with hp | hp | hp | hp | hp | hp | hp | hp | hp | hp | hp | hp <;> exact key _ (by decide) (by decide) hp

theorem foldO_take (a o k : Nat) (q : Nat) (h : facs[k]? = some q) : foldO a (facs.take (k + 1)) o = stepO a (foldO a (facs.take k) o) q := by
  unfold foldO
  rw [List.take_add_one, h]
  simp
theorem stepO_le (a o q : Nat) : stepO a o q ≤ o := by
  unfold stepO; split
  · exact Nat.div_le_self _ _
  · exact Nat.le_refl _
end Go.Proofs.YtjbpnhibgafdmaaDoor.M
