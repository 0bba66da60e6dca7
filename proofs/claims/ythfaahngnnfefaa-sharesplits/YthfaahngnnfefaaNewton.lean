/-
  The polynomial through points, a point at a time: what of a polynomial that is 0 at all points so far is added changes nothing there. Plain mathematics: nothing of the program.
-/
import Derived.Test.YthfaahngnnfefaaPolyC
import Derived.Test.YthfaahngnnfefaaPolyM
namespace Go.Proofs.Ythfaahngnnfefaa
open Go.RowKit M Pm
set_option linter.unusedVariables false

/-- 0 at the first points. -/
def base (ps : List Pt) (x : Fp) : Nat → Fp
  | 0 => 1
  | i + 1 => base ps x i * (x - ptX ps i)
theorem base_zero (ps : List Pt) {j : Nat} : ∀ {i : Nat}, j < i → base ps (ptX ps j) i = 0
  | 0, h => by omega
  | i + 1, h => by
    rw [base]
    by_cases e : j = i
    · subst e; grind
    · rw [base_zero ps (show j < i by omega)]; grind
theorem base_other {ps : List Pt} {x : Fp} : ∀ {i : Nat}, (∀ j, j < i → x ≠ ptX ps j) → base ps x i ≠ 0
  | 0, _ => by rw [base]; decide
  | i + 1, h => by
    rw [base]
    intro e
    rcases no_zero e with h1 | h1
    · exact base_other (fun j hj => h j (by omega)) h1
    · exact h i (by omega) (by grind)

theorem len_of_ev {l m : List Fp} {n : Nat} (hn : n < 2305843009213693951) (hl : l.length ≤ n) (hm : m.length ≤ n) (tl : Tight l) (h : ∀ x, ev l x = ev m x) : l.length ≤ m.length := by
  apply Nat.le_of_not_lt
  intro hlt
  have hc := same_co (places_nodup n hn) (l := l) (m := m) (by rw [places_length]; exact hl) (by rw [places_length]; exact hm) (fun x _ => h x) (l.length - 1)
  have h2 : co m (l.length - 1) = 0 := by
    unfold co
    rw [List.getD_eq_getElem?_getD, List.getElem?_eq_none (by omega)]
    rfl
  have h3 : l.getLast? = some (co l (l.length - 1)) := by
    unfold co
    rw [List.getLast?_eq_getElem?, List.getD_eq_getElem?_getD, List.getElem?_eq_getElem (by omega)]
    rfl
  exact tl _ h3 (by rw [hc, h2])

/-- What stands behind i points. -/
structure Newton (ps : List Pt) (i : Nat) (p : List Nat) (kp : Nat) (b : List Nat) (kb : Nat) : Prop where
  lp : p.length = kp
  hp : kp ≤ i
  bp : ∀ y ∈ p, y < 2305843009213693951
  tp : Tight (p.map F)
  vp : ∀ j, j < i → ev (p.map F) (ptX ps j) = ptY ps j
  lb : b.length = kb
  hb : kb ≤ i + 1
  bb : ∀ y ∈ b, y < 2305843009213693951
  vb : ∀ x, ev (b.map F) x = base ps x i
theorem Newton.start (ps : List Pt) : Newton ps 0 [] 0 [1] 1 :=
  ⟨rfl, Nat.le_refl _, by simp, by intro c hc; simp at hc, fun j hj => by omega, rfl, Nat.le_refl _, by simp, fun x => by simp only [List.map_cons, List.map_nil, ev, base, F_one]; grind⟩

theorem Newton.step {ps : List Pt} {i : Nat} {p b : List Nat} {kp kb : Nat} (N : Newton ps i p kp b kb) (hi : i < 64) (S : SoundP ps) (hil : i < ps.length) {z v : Nat} (hz : ptX ps i = F z) (hv : ptY ps i = F v)
    {g : Nat} (hg : g = mulP (subP v (evN p z)) (invP (evN b z))) {q p' b' : List Nat} {kq kp' kb' n1 n2 n3 : Nat} (hn1 : n1 ≤ 1000) (hn2 : n2 ≤ 1000) (hn3 : n3 ≤ 1000)
    (hq : PolyOf q kq n1 (fun x => ev (b.map F) x * ev ([g].map F) x)) (hp' : PolyOf p' kp' n2 (fun x => ev (p.map F) x + ev (q.map F) x))
    (hb' : PolyOf b' kb' n3 (fun x => ev (b.map F) x * ev ([subP 0 z, 1].map F) x)) : Newton ps (i + 1) p' kp' b' kb' := by
  have ap := apart_X S
  have hne : ev (b.map F) (F z) ≠ 0 := by
    rw [N.vb, ← hz]
    exact base_other fun j hj => ap i j hil (by omega) (by omega)
  have hinv := inv_mul hne
  have Fg : F g = (ptY ps i - ev (p.map F) (F z)) * inv (ev (b.map F) (F z)) := by
    rw [hg, F_mulP, F_subP, F_evN, F_invP (evN_lt _ _), F_evN, hv]
  have val' : ∀ x, ev (p'.map F) x = ev (p.map F) x + ev (b.map F) x * F g := by
    intro x
    rw [hp'.val, hq.val]
    simp only [List.map_cons, List.map_nil, ev]
    grind
  have valb : ∀ x, ev (b'.map F) x = ev (b.map F) x * (x - ptX ps i) := by
    intro x
    rw [hb'.val, hz]
    simp only [List.map_cons, List.map_nil, ev, F_subP, F_zero, F_one]
    grind
  have lenp : kp' ≤ i + 1 := by
    have := len_of_ev (l := p'.map F) (m := addL (p.map F) (smul (F g) (b.map F))) (n := 2000) (by omega) (by rw [List.length_map, hp'.len]; have := hp'.le; omega) (by rw [addL_length, smul_length, List.length_map, List.length_map, N.lp, N.lb]; have := N.hp; have := N.hb; omega) hp'.tight (fun x => by
      rw [val', ev_addL, ev_smul]; grind)
    rw [List.length_map, hp'.len, addL_length, smul_length, List.length_map, List.length_map, N.lp, N.lb] at this
    have h1 := N.hp
    have h2 := N.hb
    omega
  have lenb : kb' ≤ i + 1 + 1 := by
    have h2 := mulL_two (b.map F) (-(ptX ps i)) 1
    rw [List.length_map, N.lb] at h2
    have := len_of_ev (l := b'.map F) (m := mulL (b.map F) [-(ptX ps i), 1]) (n := 2000) (by omega) (by rw [List.length_map, hb'.len]; have := hb'.le; omega) (by have := N.hb; omega) hb'.tight (fun x => by
      rw [valb, ev_mulL]
      simp only [ev]
      grind)
    rw [List.length_map, hb'.len] at this
    have h1 := N.hb
    omega
  refine ⟨hp'.len, lenp, hp'.lt, hp'.tight, fun j hj => ?_, hb'.len, lenb, hb'.lt, fun x => ?_⟩
  · rw [val']
    by_cases e : j = i
    · subst e
      rw [hz, Fg]
      generalize ev (b.map F) (F z) = u at *
      generalize inv u = c at *
      generalize ev (p.map F) (F z) = r
      grind
    · rw [N.vp j (by omega), N.vb, base_zero ps (show j < i by omega)]
      grind
  · rw [valb, N.vb, base]
end Go.Proofs.Ythfaahngnnfefaa
