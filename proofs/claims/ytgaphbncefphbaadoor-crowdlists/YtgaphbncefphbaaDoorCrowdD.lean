/-
  The landed crowd: Of.
-/
import Derived.Test.YtgaphbncefphbaaDoorCrowdB
namespace Go.Proofs.YtgaphbncefphbaaDoor
open Go.RowKit Pn Cr
set_option linter.unusedVariables false

namespace Cr
def fine (l : List Int) : Bool := l.all fun z => decide (1 ≤ z) && decide (z ≤ 64)
/-- The set of these donors. -/
def setZ (l : List Int) : Nat := ofL (l.map Int.toNat)
theorem fine_take {l : List Int} (h : fine l = true) (k : Nat) : fine (l.take k) = true := by
  unfold fine at *
  rw [List.all_eq_true] at *
  exact fun z hz => h z (List.mem_of_mem_take hz)
theorem fine_at {l : List Int} (h : fine l = true) {k : Nat} (hk : k < l.length) : ∃ j : Nat, l.getD k 0 = (j : Int) + 1 ∧ j < 64 := by
  unfold fine at h
  rw [List.all_eq_true] at h
  have := h l[k] (List.getElem_mem hk)
  simp only [Bool.and_eq_true, decide_eq_true_eq] at this
  refine ⟨(l[k] - 1).toNat, ?_, by omega⟩
  rw [show l.getD k 0 = l[k] by simp [List.getD, hk]]
  omega
theorem fine_step {l : List Int} {k : Nat} (hk : k < l.length) : fine (l.take (k + 1)) = (fine (l.take k) && (decide (1 ≤ l.getD k 0) && decide (l.getD k 0 ≤ 64))) := by
  unfold fine
  rw [List.take_add_one, List.all_append]
  simp [List.getD, hk]
theorem fine_no {l : List Int} {k : Nat} (hk : k < l.length) (h : (decide (1 ≤ l.getD k 0) && decide (l.getD k 0 ≤ 64)) = false) : fine l = false := by
  rw [Bool.eq_false_iff]
  intro hf
  have := fine_take hf (k + 1)
  rw [fine_step hk, h, Bool.and_false] at this
  cases this
theorem setZ_lt {l : List Int} (h : fine l = true) : setZ l < 18446744073709551616 := by
  apply ofL_lt
  intro d hd
  obtain ⟨z, hz, rfl⟩ := List.mem_map.1 hd
  unfold fine at h
  rw [List.all_eq_true] at h
  have := h z hz
  simp only [Bool.and_eq_true, decide_eq_true_eq] at this
  omega
theorem setZ_at {l : List Int} (h : fine l = true) (j : Nat) : (setZ l).testBit j = l.contains ((j : Int) + 1) := by
  unfold fine at h
  rw [List.all_eq_true] at h
  unfold setZ
  rw [ofL_at _ (fun d hd => by
    obtain ⟨z, hz, rfl⟩ := List.mem_map.1 hd
    have := h z hz
    simp only [Bool.and_eq_true, decide_eq_true_eq] at this
    omega), Bool.eq_iff_iff, List.contains_iff_mem, List.contains_iff_mem, List.mem_map]
  constructor
  · rintro ⟨z, hz, e⟩
    have := h z hz
    simp only [Bool.and_eq_true, decide_eq_true_eq] at this
    rwa [show z = (j : Int) + 1 by omega] at hz
  · exact fun hm => ⟨_, hm, by omega⟩
theorem setZ_step {l : List Int} {k j : Nat} (hk : k < l.length) (hj : l.getD k 0 = (j : Int) + 1) : setZ (l.take k) ||| 2 ^ j = setZ (l.take (k + 1)) := by
  have e : l[k] = (j : Int) + 1 := by rw [← hj]; simp [List.getD, hk]
  unfold setZ ofL
  rw [List.take_add_one, List.getElem?_eq_getElem hk, Option.toList_some, List.map_append, List.foldl_append, e]
  simp
theorem nodup_step {l : List Int} {k : Nat} (hk : k < l.length) (h : (l.take k).Nodup) (hc : (l.take k).contains (l.getD k 0) = false) : (l.take (k + 1)).Nodup := by
  have e : l.getD k 0 = l[k] := by simp [List.getD, hk]
  rw [List.take_add_one, List.getElem?_eq_getElem hk, Option.toList_some, List.nodup_append]
  refine ⟨h, by simp, fun a ha b hb he => ?_⟩
  rw [List.mem_singleton] at hb
  subst hb he
  rw [e] at hc
  rw [Bool.eq_false_iff] at hc
  exact hc (List.contains_iff_mem.2 ha)
theorem twice {l : List Int} {k : Nat} (hk : k < l.length) (hc : (l.take k).contains (l.getD k 0) = true) : ¬ l.Nodup := by
  have e : l.getD k 0 = l[k] := by simp [List.getD, hk]
  intro hn
  rw [e, List.contains_iff_mem] at hc
  have : (l.take (k + 1)).Nodup := hn.sublist (List.take_sublist _ _)
  rw [List.take_add_one, List.getElem?_eq_getElem hk, Option.toList_some, List.nodup_append] at this
  exact this.2.2 _ hc _ (by simp) rfl
theorem of_bad {l : List Int} (h : fine l = false) : ofE l = 4 ∧ ofV l = 0 := by
  have e : ofE l = 4 := by
    unfold ofE
    rw [if_neg]
    rw [show (l.all fun z => decide (1 ≤ z) && decide (z ≤ 64)) = fine l from rfl, h]
    decide
  exact ⟨e, by unfold ofV; rw [e]; rfl⟩
theorem of_two {l : List Int} (h : fine l = true) (hn : ¬ l.Nodup) : ofE l = 8 ∧ ofV l = 0 := by
  have e : ofE l = 8 := by
    unfold ofE
    rw [if_pos (show (l.all fun z => decide (1 ≤ z) && decide (z ≤ 64)) = true from h), if_neg hn]
  exact ⟨e, by unfold ofV; rw [e]; rfl⟩
theorem of_ok {l : List Int} (h : fine l = true) (hn : l.Nodup) : ofE l = 0 ∧ ofV l = setZ l := by
  have e : ofE l = 0 := by
    unfold ofE
    rw [if_pos (show (l.all fun z => decide (1 ≤ z) && decide (z ≤ 64)) = true from h), if_pos hn]
  exact ⟨e, by unfold ofV; rw [e]; rfl⟩
end Cr

set_option maxHeartbeats 1000000 in
theorem areDonors18 (a : Option Addr) (n cap : Nat) (l : List Int) (hl : l.length = n) (hn : n ≤ 9223372036854775807) (w : World) (rd : Rd w a (ints l)) :
    Calls Tryd.prog 16 #[.slice a n cap] w fun e w' => e = .returned (.bool (fine l)) ∧ w' = w := by
  have HL := hide hl
  have HN := hide hn
  clear hl hn
  go_enter Tryd.func16, Tryd.ntmps16
  go_wp2_with fail
  go_loop [4, 7] (fun vn vi => ∃ k : Nat, k ≤ n ∧ vi = .int .i64 (k : Nat) ∧ Hid (fine (l.take k) = true)) (fun vn vi => (n - intOf vi).toNat)
  case atStart => exact ⟨0, by omega, rfl, by show fine (l.take 0) = true; rfl⟩
  case round =>
    obtain ⟨k, hk, rfl, H⟩ := hrel
    by_cases hkn : k = n
    · subst hkn
      have E : Hid (fine l = true) := by
        show _ = _
        have := H.out
        rwa [List.take_of_length_le (by rw [HL.out]; omega)] at this
      go_wp2
      go_ret
      exact ⟨by rw [E.out]; rfl, rfl⟩
    · have hkl : k < n := by omega
      have lk := hide (show k < l.length by have := HL.out; omega)
      obtain ⟨b, off, rfl, hc⟩ := rd_int rd lk.out
      have hki : (0 : Int) ≤ k := by omega
      have hki2 : (k : Int) < n := by omega
      have hki3 : (k : Int) + 1 ≤ 9223372036854775807 := by have := HN.out; omega
      have ST := hide (fine_step lk.out)
      have NO := hide (fine_no lk.out)
      clear lk
      revert ST NO
      generalize l.getD k 0 = x at *
      intro ST NO
      have C := hide (isDonor18_any x w)
      revert ST NO C
      generalize hz : (decide (1 ≤ x) && decide (x ≤ 64)) = z
      intro ST NO C
      clear hz
      cases z with
      | true =>
        have E : Hid (fine (l.take (k + 1)) = true) := by
          show _ = _
          rw [ST.out, H.out]
          rfl
        clear ST NO
        go_wp2_with fail
        refine C.out.mono ?_
        rintro e w' ⟨rfl, rfl⟩
        go_wp2
        go_round
        case rel => exact ⟨k + 1, by omega, by go_num, E⟩
        case measure => simp [intOf]; omega
      | false =>
        have E := hide (NO.out rfl)
        clear ST NO
        go_wp2_with fail
        refine C.out.mono ?_
        rintro e w' ⟨rfl, rfl⟩
        go_wp2
        go_ret
        exact ⟨by rw [E.out]; rfl, rfl⟩

set_option maxHeartbeats 1000000 in
theorem ofK18 (a : Option Addr) (n cap : Nat) (l : List Int) (hl : l.length = n) (hn : n ≤ 9223372036854775807) (hcap : n ≤ cap) (w : World) (rd : Rd w a (ints l)) :
    Calls Tryd.prog 8 #[.slice a n cap] w fun e w' => e = .returned (.tuple #[.int .u64 (ofV l : Nat), .int .i64 (ofE l : Nat)]) ∧ Old w w' := by
  have C1 := hide (areDonors18 a n cap l hl hn w rd)
  cases hf : fine l with
  | false =>
    rw [hf] at C1
    rw [(of_bad hf).1, (of_bad hf).2]
    clear hf hl hn hcap rd
    go_enter Tryd.func8, Tryd.ntmps8
    go_wp2_with fail
    refine C1.out.mono ?_
    rintro e w' ⟨rfl, rfl⟩
    go_wp2
    go_ret2
    exact ⟨rfl, Old.refl _⟩
  | true =>
    rw [hf] at C1
    have HF := hide hf
    have HL := hide hl
    have HN := hide hn
    have S0 : Hid ((0 : Nat) = setZ (l.take 0) ∧ (l.take 0).Nodup) := ⟨rfl, List.nodup_nil⟩
    clear hl hn hf hcap
    go_enter Tryd.func8, Tryd.ntmps8
    go_wp2_with fail
    refine C1.out.mono ?_
    rintro e w' ⟨rfl, rfl⟩
    go_wp2_with fail
    go_loop [4, 6, 12] (fun vs vn vi => ∃ k s : Nat, k ≤ n ∧ vs = .int .u64 (s : Nat) ∧ vi = .int .i64 (k : Nat) ∧ Hid (s = setZ (l.take k) ∧ (l.take k).Nodup)) (fun vs vn vi => (n - intOf vi).toNat)
    case atStart => exact ⟨0, 0, by omega, rfl, rfl, S0⟩
    case round =>
      clear S0 C1
      obtain ⟨k, s, hk, rfl, rfl, H⟩ := hrel
      by_cases hkn : k = n
      · subst hkn
        have E : Hid (ofE l = 0 ∧ ofV l = s) := by
          show _ ∧ _
          have := H.out
          rw [List.take_of_length_le (by rw [HL.out]; omega)] at this
          rw [this.1]
          exact of_ok HF.out this.2
        go_wp2
        go_ret2
        exact ⟨by rw [E.out.1, E.out.2]; rfl, Old.refl _⟩
      · have hkl : k < n := by omega
        have lk := hide (show k < l.length by have := HL.out; omega)
        obtain ⟨b, off, rfl, hc⟩ := rd_int rd lk.out
        have hki : (0 : Int) ≤ k := by omega
        have hki2 : (k : Int) < n := by omega
        have hki3 : (k : Int) + 1 ≤ 9223372036854775807 := by have := HN.out; omega
        obtain ⟨j, hj, hj64⟩ := fine_at HF.out lk.out
        have hs : s < 18446744073709551616 := by rw [H.out.1]; exact setZ_lt (fine_take HF.out k)
        have C2 := hide (has18_any s j hs hj64 w')
        have C3 := hide (with18_any s j hs hj64 w')
        have eb : s.testBit j = (l.take k).contains (l.getD k 0) := by rw [H.out.1, setZ_at (fine_take HF.out k), hj]
        rw [hj] at hc
        cases hb : (l.take k).contains (l.getD k 0) with
        | true =>
          rw [eb, hb] at C2
          have E := hide (of_two HF.out (twice lk.out hb))
          clear eb hb lk hs hj hj64 C3
          go_wp2_with fail
          refine C2.out.mono ?_
          rintro e w2 ⟨rfl, rfl⟩
          go_wp2
          go_ret2
          exact ⟨by rw [E.out.1, E.out.2]; rfl, Old.refl _⟩
        | false =>
          rw [eb, hb] at C2
          have e3 := setZ_step lk.out hj
          rw [← H.out.1] at e3
          have A1 : Hid (s ||| 2 ^ j = setZ (l.take (k + 1)) ∧ (l.take (k + 1)).Nodup) := ⟨e3, nodup_step lk.out H.out.2 hb⟩
          clear eb hb lk hs hj hj64 e3
          revert C3 A1
          generalize s ||| 2 ^ j = s2
          intro C3 A1
          go_wp2_with fail
          refine C2.out.mono ?_
          rintro e w2 ⟨rfl, rfl⟩
          go_wp2_with fail
          refine C3.out.mono ?_
          rintro e w2 ⟨rfl, rfl⟩
          go_wp2
          go_round
          case rel => exact ⟨k + 1, s2, by omega, rfl, by go_num, A1⟩
          case measure => simp [intOf]; omega
end Go.Proofs.YtgaphbncefphbaaDoor
