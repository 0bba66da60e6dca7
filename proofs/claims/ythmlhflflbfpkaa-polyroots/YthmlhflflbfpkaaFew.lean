/-
  offertorylaw06.few, offertorylaw06.some: no more than some numbers, or points.
-/
import Derived.Test.YthmlhflflbfpkaaRefPoints
namespace Go.Proofs.Ythmlhflflbfpkaa
open Go.RowKit
set_option linter.unusedVariables false

theorem rd_take64 {w : World} {a : Option Addr} {k : IntKind} {xs : List Nat} (h : Rd w a (nums k xs)) (m : Nat) : Rd w a (nums k (xs.take m)) := by
  intro i v hv
  refine h i v ?_
  unfold nums at *
  rw [List.map_take, List.getElem?_take] at hv
  split at hv
  · exact hv
  · cases hv

theorem few_any (l : List Nat) (n : Nat) (a : Option Addr) (cap : Nat) (w : World) (hl : l.length = n) (hc : n ≤ cap) (rd : Rd w a (nums .u64 l)) :
    Calls Try.prog 9 #[.slice a n cap] w fun e w' => ∃ (l' : List Nat) (m : Nat), e = .returned (.slice a m cap) ∧ l' = l.take 12 ∧ l'.length = m ∧ m ≤ 12 ∧ m ≤ cap ∧ Rd w a (nums .u64 l') ∧ w' = w := by
  by_cases h : 12 < n
  · go_enter Try.func9, Try.ntmps9
    go_wp2
    go_ret
    exact ⟨l.take 12, 12, rfl, rfl, by rw [List.length_take]; omega, by omega, by omega, rd_take64 rd 12, rfl⟩
  · go_enter Try.func9, Try.ntmps9
    go_wp2
    go_ret
    exact ⟨l, n, rfl, (List.take_of_length_le (by omega)).symm, hl, by omega, hc, rd, rfl⟩

theorem some_any (ps : List Pt) (n : Nat) (a : Option Addr) (cap : Nat) (w : World) (hl : ps.length = n) (hc : n ≤ cap) (rd : Pts w a ps) :
    Calls Try.prog 19 #[.slice a n cap] w fun e w' => ∃ (qs : List Pt) (m : Nat), e = .returned (.slice a m cap) ∧ (qs = ps ∨ qs = ps.take 9) ∧ qs.length = m ∧ (m ≤ 9 ∨ 64 < m) ∧ m ≤ cap ∧ m ≤ n ∧ Pts w a qs ∧ w' = w := by
  by_cases h : 9 < n
  · have e1 : decide ((9 : Int) < n) = true := decide_eq_true (by omega)
    by_cases h2 : n ≤ 64
    · have e2 : decide ((n : Int) ≤ 64) = true := decide_eq_true (by omega)
      go_enter Try.func19, Try.ntmps19
      go_wp2
      go_ret
      exact ⟨ps.take 9, 9, rfl, .inr rfl, by rw [List.length_take]; omega, by omega, by omega, by omega, rd.take 9, rfl⟩
    · have e2 : decide ((n : Int) ≤ 64) = false := decide_eq_false (by omega)
      go_enter Try.func19, Try.ntmps19
      go_wp2
      go_ret
      exact ⟨ps, n, rfl, .inl rfl, hl, by omega, hc, by omega, rd, rfl⟩
  · have e1 : decide ((9 : Int) < n) = false := decide_eq_false (by omega)
    go_enter Try.func19, Try.ntmps19
    go_wp2
    go_ret
    exact ⟨ps, n, rfl, .inl rfl, hl, by omega, hc, by omega, rd, rfl⟩
end Go.Proofs.Ythmlhflflbfpkaa
