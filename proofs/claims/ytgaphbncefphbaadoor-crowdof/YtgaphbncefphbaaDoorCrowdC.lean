/-
  What each call of package crowd owes (P18.1).
-/
import Derived.Test.YtgaphbncefphbaaDoorIntsN
import Derived.Test.YtgaphbncefphbaaDoorCrowdN
import Derived.Test.YtgaphbncefphbaaDoorTab
import Derived.Laws.BitsAll
namespace Go.Proofs.YtgaphbncefphbaaDoor
open Go.RowKit Pn Cr
set_option linter.unusedVariables false

namespace Cr
/-- What is wrong with these numbers: one that is no donor's; one that is there twice. -/
def ofE (l : List Int) : Nat := if (l.all fun z => decide (1 ≤ z) && decide (z ≤ 64)) = true then if l.Nodup then 0 else 8 else 4
def ofV (l : List Int) : Nat := if ofE l = 0 then ofL (l.map Int.toNat) else 0
def listZ (c : Nat) : List Int := (listC c).map Int.ofNat
theorem ofE_zero {l : List Int} (h : ofE l = 0) : (∀ z ∈ l, 1 ≤ z ∧ z ≤ 64) ∧ l.Nodup := by
  unfold ofE at h
  split at h
  · rename_i h1
    rw [List.all_eq_true] at h1
    split at h
    · exact ⟨fun z hz => by simpa using h1 z hz, by assumption⟩
    · omega
  · omega
theorem nats {l : List Int} (h : ∀ z ∈ l, 1 ≤ z ∧ z ≤ 64) (hn : l.Nodup) : (∀ d ∈ l.map Int.toNat, 1 ≤ d ∧ d ≤ 64) ∧ (l.map Int.toNat).Nodup := by
  refine ⟨fun d hd => ?_, ?_⟩
  · obtain ⟨z, hz, rfl⟩ := List.mem_map.1 hd
    have := h z hz
    omega
  · unfold List.Nodup
    rw [List.pairwise_map]
    refine List.Pairwise.imp_of_mem (fun ha hb hab => ?_) hn
    have h1 := h _ ha
    have h2 := h _ hb
    omega
theorem of_size {l : List Int} (h : ofE l = 0) : sizeC (ofV l) = l.length := by
  obtain ⟨h1, h2⟩ := ofE_zero h
  obtain ⟨h3, h4⟩ := nats h1 h2
  unfold ofV
  rw [if_pos h, size_of h3 h4, List.length_map]
theorem of_has {l : List Int} (h : ofE l = 0) (n : Int) : hasC (ofV l) n = l.contains n := by
  obtain ⟨h1, h2⟩ := ofE_zero h
  obtain ⟨h3, h4⟩ := nats h1 h2
  unfold ofV
  rw [if_pos h]
  by_cases hn : n < 1 ∨ 64 < n
  · rw [has_out hn, eq_comm, Bool.eq_false_iff]
    intro hc
    have := h1 n (List.contains_iff_mem.1 hc)
    omega
  · obtain ⟨m, rfl⟩ : ∃ m : Nat, n = m := ⟨n.toNat, by omega⟩
    rw [has_of h3, Bool.eq_iff_iff, List.contains_iff_mem, List.contains_iff_mem, List.mem_map]
    constructor
    · rintro ⟨z, hz, e⟩
      have := h1 z hz
      rwa [show z = (m : Int) by omega] at hz
    · exact fun hm => ⟨m, hm, by omega⟩
theorem listZ_back {c : Nat} (hc : c < 18446744073709551616) : ofE (listZ c) = 0 ∧ ofV (listZ c) = c := by
  have e : (listZ c).map Int.toNat = listC c := by
    unfold listZ
    rw [List.map_map]
    simp [Function.comp_def]
  have h0 : ofE (listZ c) = 0 := by
    unfold ofE
    rw [if_pos, if_pos]
    · unfold listZ List.Nodup
      rw [List.pairwise_map]
      exact List.Pairwise.imp (fun h he => h (Int.ofNat.inj he)) (listC_nodup c)
    · rw [List.all_eq_true]
      intro z hz
      obtain ⟨d, hd, rfl⟩ := List.mem_map.1 hz
      obtain ⟨h1, h2, _⟩ := mem_lsTo.1 hd
      simp
      omega
  refine ⟨h0, ?_⟩
  unfold ofV
  rw [if_pos h0, e, back hc]
theorem bit_at {c i : Nat} (hc : c < 18446744073709551616) : bits .and .u64 ((c : Int) / 2 ^ i) 1 = if c.testBit i = true then 1 else 0 := by
  have e : (c : Int) / 2 ^ i = ((c / 2 ^ i : Nat) : Int) := by simp
  have hl : c / 2 ^ i < 18446744073709551616 := Nat.lt_of_le_of_lt (Nat.div_le_self _ _) hc
  rw [e, show (1 : Int) = ((1 : Nat) : Int) from rfl, u64_and_nat _ 1 hl (by omega), Nat.and_one_is_mod, Nat.testBit_eq_decide_div_mod_eq]
  have := Nat.mod_two_eq_zero_or_one (c / 2 ^ i)
  rcases this with h | h <;> rw [h] <;> simp
end Cr

structure CrowdK : Prop where
  ofK : ∀ (a : Option Addr) (n cap : Nat) (l : List Int) (_ : l.length = n) (_ : n ≤ 9223372036854775807) (_ : n ≤ cap) (w : World) (_ : Rd w a (ints l)), Calls Tryd.prog 8 #[.slice a n cap] w fun e w' => e = .returned (.tuple #[.int .u64 (ofV l : Nat), .int .i64 (ofE l : Nat)]) ∧ Old w w'
  listK : ∀ (c : Nat) (_ : c < 18446744073709551616) (w : World) (_ : Tab w), Calls Tryd.prog 13 #[.int .u64 (c : Nat)] w fun e w' => ∃ a cap, e = .returned (.slice a (sizeC c) cap) ∧ sizeC c ≤ cap ∧ Rd w' a (ints (listZ c)) ∧ Old w w'
  hasK : ∀ (c : Nat) (_ : c < 18446744073709551616) (n : Int) (w : World), Calls Tryd.prog 11 #[.int .u64 (c : Nat), .int .i64 n] w fun e w' => e = .returned (.bool (hasC c n)) ∧ Old w w'
  sizeK : ∀ (c : Nat) (_ : c < 18446744073709551616) (w : World), Calls Tryd.prog 10 #[.int .u64 (c : Nat)] w fun e w' => e = .returned (.int .i64 (sizeC c : Nat)) ∧ Old w w'
  withinK : ∀ (b c : Nat) (_ : b < 18446744073709551616) (_ : c < 18446744073709551616) (w : World), Calls Tryd.prog 15 #[.int .u64 (b : Nat), .int .u64 (c : Nat)] w fun e w' => e = .returned (.bool (withinC b c)) ∧ Old w w'
  allK : ∀ (n : Int) (w : World), Calls Tryd.prog 14 #[.int .i64 n] w fun e w' => e = .returned (.int .u64 (allC (min n.toNat 64) : Nat)) ∧ Old w w'
end Go.Proofs.YtgaphbncefphbaaDoor
