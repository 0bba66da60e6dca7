/-
  More of polynomials: a number of a list written anew, a product's last number, lists cut behind their last number that is not 0, values from the highest power down. Plain mathematics: nothing of the program.
-/
import Derived.Test.YthfaahngnnfefaaPolyN
namespace Go.Proofs.Ythfaahngnnfefaa
open Go.RowKit M Pm
set_option linter.unusedVariables false

theorem ev_set (x v : Fp) : ∀ (l : List Fp) (j : Nat), j < l.length → ev (l.set j v) x = ev l x + x ^ j * (v - co l j)
  | [], j, h => by simp at h
  | c :: l, 0, h => by
    simp only [List.set_cons_zero, ev, co, List.getD_cons_zero]
    grind
  | c :: l, j + 1, h => by
    have ih := ev_set x v l j (by simpa using h)
    have e : co (c :: l) (j + 1) = co l j := by simp [co]
    simp only [List.set_cons_succ, ev, ih, e]
    grind
theorem co_mulL_last : ∀ (l m : List Fp), l ≠ [] → m ≠ [] → co (mulL l m) (l.length + m.length - 2) = co l (l.length - 1) * co m (m.length - 1)
  | [], m, h, _ => absurd rfl h
  | [c], m, _, hm => by
    have hp : 0 < m.length := List.length_pos_iff.2 hm
    have e : co [(0 : Fp)] (m.length - 1) = 0 := by
      unfold co
      match m.length - 1 with
      | 0 => rfl
      | k + 1 => rfl
    have e0 : co [c] 0 = c := rfl
    rw [mulL, mulL, co_addL, co_smul, List.length_singleton, show 1 + m.length - 2 = m.length - 1 by omega, e, show 1 - 1 = 0 from rfl, e0]
    grind
  | c :: d :: l, m, _, hm => by
    have hp : 0 < m.length := List.length_pos_iff.2 hm
    have ih := co_mulL_last (d :: l) m (by simp) hm
    have e1 : co m ((c :: d :: l).length + m.length - 2) = 0 := by
      unfold co
      rw [List.getD_eq_getElem?_getD, List.getElem?_eq_none (by simp; omega)]
      rfl
    have e2 : (c :: d :: l).length + m.length - 2 = ((d :: l).length + m.length - 2) + 1 := by simp; omega
    have e3 : co (0 :: mulL (d :: l) m) (((d :: l).length + m.length - 2) + 1) = co (mulL (d :: l) m) ((d :: l).length + m.length - 2) := by simp [co]
    have e4 : co (c :: d :: l) ((c :: d :: l).length - 1) = co (d :: l) ((d :: l).length - 1) := by simp [co]
    rw [mulL, co_addL, co_smul, e1, e2, e3, ih, e4]
    grind
/-- A list as long as a product of two without 0 at their ends, with its values, has no 0 at its end. -/
theorem tight_mul {l m s : List Fp} {n : Nat} (hn : n < 2305843009213693951) (hl : l ≠ []) (hm : m ≠ []) (tl : Tight l) (tm : Tight m) (hs : s.length = l.length + m.length - 1) (hb : l.length + m.length ≤ n) (h : ∀ x, ev s x = ev l x * ev m x) : Tight s := by
  have lp : 0 < l.length := List.length_pos_iff.2 hl
  have mp : 0 < m.length := List.length_pos_iff.2 hm
  have hc := same_co (places_nodup n hn) (l := s) (m := mulL l m) (by rw [places_length]; omega) (by rw [places_length]; exact Nat.le_trans (mulL_length l m) hb) (fun x _ => by rw [h, ev_mulL]) (l.length + m.length - 2)
  rw [co_mulL_last l m hl hm] at hc
  have last : ∀ t : List Fp, 0 < t.length → t.getLast? = some (co t (t.length - 1)) := by
    intro t ht
    unfold co
    rw [List.getLast?_eq_getElem?, List.getD_eq_getElem?_getD, List.getElem?_eq_getElem (by omega)]
    rfl
  intro c hcs
  rw [last s (by omega), hs, show l.length + m.length - 1 - 1 = l.length + m.length - 2 by omega, hc] at hcs
  obtain rfl := Option.some.inj hcs
  intro e
  rcases no_zero e with h1 | h1
  · exact tl _ (last l lp) h1
  · exact tm _ (last m mp) h1

/-- Cut behind the last number that counts. -/
def cutN (l : List Nat) : List Nat := l.take (lastK l l.length)
theorem cutN_length (l : List Nat) : (cutN l).length = lastK l l.length := by
  have := lastK_le l l.length
  simp [cutN]; omega
theorem cutN_F (l : List Nat) : (cutN l).map F = (trimN l).map F := by rw [trimN, map_F_md, cutN]
theorem cutN_ev (l : List Nat) (x : Fp) : ev ((cutN l).map F) x = ev (l.map F) x := by rw [cutN_F, trimN_ev]
theorem cutN_tight (l : List Nat) : Tight ((cutN l).map F) := by rw [cutN_F]; exact trimN_ends l
theorem cutN_mem {l : List Nat} {y : Nat} (h : y ∈ cutN l) : y ∈ l := List.mem_of_mem_take h
theorem lastK_all (l : List Nat) : ∀ {n k : Nat}, k ≤ n → (∀ i, k ≤ i → i < n → md (l.getD i 0) = 0) → lastK l n = lastK l k
  | 0, k, h, _ => by rw [show k = 0 by omega]
  | n + 1, k, h, hz => by
    by_cases e : k = n + 1
    · rw [e]
    · rw [lastK, if_pos (hz n (by omega) (by omega))]
      exact lastK_all l (by omega) fun i h1 h2 => hz i h1 (by omega)

/-- From the highest power down. -/
theorem evN_down {l : List Nat} {k c : Nat} (x : Nat) (h : l[k]? = some c) : addP (mulP (evN (l.drop (k + 1)) x) x) c = evN (l.drop k) x := by
  obtain ⟨hk, rfl⟩ := List.getElem?_eq_some_iff.1 h
  rw [addP_val, F_mulP, F_evN, List.drop_eq_getElem_cons hk]
  unfold evN
  simp only [List.map_cons, ev]
  congr 1
  grind
theorem map_set_F (l : List Nat) (j v : Nat) : (l.set j v).map F = (l.map F).set j (F v) := by rw [List.map_set]
theorem co_map_F {l : List Nat} {j c : Nat} (h : l[j]? = some c) : co (l.map F) j = F c := by
  unfold co
  rw [List.getD_eq_getElem?_getD, List.getElem?_map, h]
  rfl
theorem ev_take_step {l : List Nat} {k c : Nat} (x : Fp) (h : l[k]? = some c) : ev ((l.take (k + 1)).map F) x = ev ((l.take k).map F) x + x ^ k * F c := by
  have hk : k < l.length := (List.getElem?_eq_some_iff.1 h).1
  rw [List.take_add_one, h]
  simp only [Option.toList, List.map_append, List.map_cons, List.map_nil, ev_append, List.length_map, List.length_take, Nat.min_eq_left (Nat.le_of_lt hk), ev]
  grind
theorem ev_zeros (n : Nat) (x : Fp) : ev ((List.replicate n 0).map F) x = 0 := by
  apply ev_zero
  intro c hc
  obtain ⟨y, hy, rfl⟩ := List.mem_map.1 hc
  rw [List.eq_of_mem_replicate hy]
  rfl
theorem set_lt {l : List Nat} {j v B : Nat} (h : ∀ y ∈ l, y < B) (hv : v < B) : ∀ y ∈ l.set j v, y < B := by
  intro y hy
  rcases List.mem_or_eq_of_mem_set hy with h1 | rfl
  · exact h y h1
  · exact hv
/-- What has been laid of a list's remainders, and zeros behind it. -/
def modTo (xs : List Nat) (L k : Nat) : List Nat := (xs.take k).map md ++ List.replicate (L - k) 0
theorem modTo_length {xs : List Nat} {L k : Nat} (h1 : k ≤ xs.length) (h2 : k ≤ L) : (modTo xs L k).length = L := by
  simp [modTo]; omega
theorem modTo_zero (xs : List Nat) (L : Nat) : modTo xs L 0 = List.replicate L 0 := by simp [modTo]
theorem modTo_step {xs : List Nat} {L k x : Nat} (h : xs[k]? = some x) (h2 : k < L) : (modTo xs L k).set k (md x) = modTo xs L (k + 1) := by
  have hk : k < xs.length := (List.getElem?_eq_some_iff.1 h).1
  unfold modTo
  rw [List.set_append_right _ _ (by simp; omega)]
  rw [List.take_add_one, h, List.map_append, List.append_assoc]
  congr 1
  rw [List.length_map, List.length_take, Nat.min_eq_left (Nat.le_of_lt hk), Nat.sub_self, show L - k = (L - (k + 1)) + 1 by omega, List.replicate_succ]
  rfl
theorem modTo_lt (xs : List Nat) (L k : Nat) : ∀ y ∈ modTo xs L k, y < 2305843009213693951 := by
  intro y hy
  rcases List.mem_append.1 hy with h | h
  · obtain ⟨z, _, rfl⟩ := List.mem_map.1 h
    exact md_lt z
  · rw [List.eq_of_mem_replicate h]; omega
theorem modTo_ev (xs : List Nat) (L : Nat) (x : Fp) : ev ((modTo xs L xs.length).map F) x = ev (xs.map F) x := by
  unfold modTo
  rw [List.take_length, List.map_append, ev_append, ev_zeros, map_F_md]
  grind
end Go.Proofs.Ythfaahngnnfefaa
