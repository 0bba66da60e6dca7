/-
  What each call of package mask owes (P17.1 to P17.3); the document's answers in the same form; cards taken few at a time.
-/
import Derived.Test.YtjbpnhibgafdmaaDoorRefMask2
import Derived.Test.YtjbpnhibgafdmaaDoorCells
import Derived.Test.YtjbpnhibgafdmaaDoorWholeG
namespace Go.Proofs.YtjbpnhibgafdmaaDoor
open Go.RowKit Cha M Vec Sl Mk
set_option linter.unusedVariables false

/-- An error with nothing beside it; or numbers in a row of the call's own. -/
def MR (w : World) (E n : Nat) (vs : List Nat) (e : Ending) (w' : World) : Prop :=
  (E ≠ 0 → e = .returned (.tuple #[.slice none 0 0, .int .i64 (E : Nat)])) ∧ (E = 0 → ∃ g, w.heap.size ≤ g ∧ e = .returned (.tuple #[.slice (some ⟨g, 0, none⟩) n n, .int .i64 0]) ∧ Row w' g 41 (nums .u32 vs)) ∧ Old w w'
theorem MR.no {P : Program} {f : FuncId} {args : Array Value} {w : World} {E n : Nat} {vs : List Nat} (c : Calls P f args w (MR w E n vs)) (h : E ≠ 0) : Calls P f args w fun e w' => e = .returned (.tuple #[.slice none 0 0, .int .i64 (E : Nat)]) ∧ Old w w' :=
  c.mono fun _ _ q => ⟨q.1 h, q.2.2⟩
theorem MR.yes {P : Program} {f : FuncId} {args : Array Value} {w : World} {E n : Nat} {vs : List Nat} (c : Calls P f args w (MR w E n vs)) (h : E = 0) : Calls P f args w fun e w' =>
    ∃ g, w.heap.size ≤ g ∧ e = .returned (.tuple #[.slice (some ⟨g, 0, none⟩) n n, .int .i64 0]) ∧ Row w' g 41 (nums .u32 vs) ∧ Old w w' :=
  c.mono fun _ _ q => by
    obtain ⟨g, h0, h1, h2⟩ := q.2.1 h
    exact ⟨g, h0, h1, h2, q.2.2⟩

namespace Mk
/-- A vector under its masks. -/
def hidV (xs own ms : List Nat) : List Nat := List.zipWith add32 (List.zipWith add32 xs own) ms
theorem hidV_length {xs own ms : List Nat} {n : Nat} (h1 : xs.length = n) (h2 : own.length = n) (h3 : ms.length = n) : (hidV xs own ms).length = n := by
  unfold hidV
  rw [List.length_zipWith, List.length_zipWith]
  omega
theorem argB_n {who n : Int} {l : List Crd} (h : argB who n l = true) : 0 ≤ n ∧ n ≤ 256 := by
  unfold argB at h
  simp only [Bool.and_eq_true, decide_eq_true_eq] at h
  exact h.1.2
theorem masksE_zero {who : Int} {s : Nat} {n : Int} {l : List Crd} (h : masksE who s n l = 0) : argB who n l = true := by
  unfold masksE at h
  split at h
  · assumption
  · omega
end Mk

structure MaskK : Prop where
  ownK : ∀ (s : List Nat) (_ : s.length = 32) (_ : ∀ x ∈ s, x < 256) (n : Int) (w : World) (_ : QTab w), Calls Tryd.prog 11 #[.agg (nums .u8 s).toArray, .int .i64 n] w fun e w' =>
    ∃ g, w.heap.size ≤ g ∧ e = .returned (.slice (some ⟨g, 0, none⟩) (kept n 256) (kept n 256)) ∧ Row w' g 41 (nums .u32 (ownV s (kept n 256))) ∧ Old w w'
  pairK : ∀ (s p : Nat) (_ : s < 18446744073709551616) (_ : p < 18446744073709551616) (n : Int) (w : World) (_ : QTab w), Calls Tryd.prog 8 #[.int .u64 s, .int .u64 p, .int .i64 n] w (MR w (agE s p) (kept n 256) (pairV (powP p s) (kept n 256)))
  hideK : ∀ (xs : List Nat) (ax : Option Addr) (n cx : Nat) (_ : xs.length = n) (_ : n ≤ 35184372088832) (_ : ∀ x ∈ xs, x < 4294967296) (who : Int) (sd : List Nat) (_ : sd.length = 32) (_ : ∀ x ∈ sd, x < 256) (s : Nat) (_ : s < 18446744073709551616) (l : List Crd) (a : Option Addr) (m cap : Nat) (_ : l.length = m) (_ : m ≤ 9223372036854775807) (_ : CrdOk l) (w : World) (_ : Rd w ax (nums .u32 xs)) (_ : CrdIn w a l) (_ : QTab w),
    Calls Tryd.prog 16 #[.slice ax n cx, .int .i64 who, .agg (nums .u8 sd).toArray, .int .u64 s, .slice a m cap] w (MR w (masksE who s n l) n (hidV xs (ownV sd n) (mskL who s n false l)))
  leftK : ∀ (who : Int) (s : Nat) (_ : s < 18446744073709551616) (l : List Crd) (a : Option Addr) (m cap : Nat) (_ : l.length = m) (_ : m ≤ 9223372036854775807) (_ : CrdOk l) (n : Int) (w : World) (_ : CrdIn w a l) (_ : QTab w),
    Calls Tryd.prog 18 #[.int .i64 who, .int .u64 s, .slice a m cap, .int .i64 n] w (MR w (masksE who s n l) n.toNat (mskL who s n.toNat true l))

theorem refMasks_all (who : Int) (s : Nat) (hs : s < 18446744073709551616) (l : List Crd) (a : Option Addr) (m cap : Nat) (hl : l.length = m) (hm : m ≤ 9223372036854775807) (hk : CrdOk l) (n : Int) (turned : Bool) (w : World) (rd : CrdIn w a l) :
    Calls Tryd.prog 17 #[.int .i64 who, .int .u64 s, .slice a m cap, .int .i64 n, .bool turned] w (MR w (masksE who s n l) n.toNat (mskL who s n.toNat turned l)) := by
  cases hB : argB who n l
  · have e : masksE who s n l = 1 := by unfold masksE; rw [hB]; rfl
    rw [e]
    exact (refMasks_arg who s l a m cap n turned hl hm w rd hB).mono fun _ _ ⟨h1, h2⟩ => ⟨fun _ => h1, fun h => absurd h (by decide), h2⟩
  · have e : masksE who s n l = mskE who s l := by unfold masksE; rw [hB]; rfl
    have hn := argB_n hB
    obtain ⟨k, rfl⟩ : ∃ k : Nat, n = k := ⟨n.toNat, by omega⟩
    rw [e]
    exact refMasks_run who s l a m cap k turned hl hm hs hk w rd hB

/-- The first six, where there are more. -/
def fewL (l : List Crd) : List Crd := if 6 < l.length ∧ l.length ≤ 64 then l.take 6 else l
theorem fewL_ok {l : List Crd} (h : CrdOk l) : CrdOk (fewL l) := by
  unfold fewL
  split
  · exact fun x hx => h x (List.mem_of_mem_take hx)
  · exact h
theorem fewL_in {w : World} {a : Option Addr} {l : List Crd} (h : CrdIn w a l) : CrdIn w a (fewL l) := by
  unfold fewL
  split
  · exact h.take _
  · exact h
theorem fewL_le {l : List Crd} (h : l.length ≤ 9223372036854775807) : (fewL l).length ≤ 9223372036854775807 := by
  unfold fewL
  split
  · rw [List.length_take]; omega
  · exact h
theorem few_any (l : List Crd) (a : Option Addr) (cap : Nat) (hc : l.length ≤ cap) (w : World) (rd : CrdIn w a l) :
    Calls Tryd.prog 15 #[.slice a l.length cap] w fun e w' => e = .returned (.slice a (fewL l).length cap) ∧ w' = w := by
  unfold fewL
  by_cases h : 6 < l.length
  · obtain ⟨b, off, rfl, -⟩ := rd 0 l[0] (by simp [show 0 < l.length by omega])
    have t1 : decide ((6 : Int) < (l.length : Int)) = true := by simp; omega
    have t1' : decide (6 < l.length) = true := by simpa using h
    by_cases h2 : l.length ≤ 64
    · have t2 : decide ((l.length : Int) ≤ 64) = true := by simp; omega
      have t2' : decide (l.length ≤ 64) = true := by simpa using h2
      rw [if_pos ⟨h, h2⟩, show (l.take 6).length = 6 by rw [List.length_take]; omega]
      have c6 : (6 : Int) ≤ cap := by omega
      clear rd
      generalize l.length = m at *
      clear h h2 hc
      go_enter Tryd.func15, Tryd.ntmps15
      go_wp2
      go_ret
      exact ⟨rfl, rfl⟩
    · have t2 : decide ((l.length : Int) ≤ 64) = false := by simp; omega
      have t2' : decide (l.length ≤ 64) = false := by simpa using h2
      rw [if_neg (fun q => h2 q.2)]
      clear rd
      generalize l.length = m at *
      clear h h2 hc
      go_enter Tryd.func15, Tryd.ntmps15
      go_wp2
      go_ret
      exact ⟨rfl, rfl⟩
  · have t1 : decide ((6 : Int) < (l.length : Int)) = false := by simp; omega
    have t1' : decide (6 < l.length) = false := by simpa using h
    rw [if_neg (fun q => h q.1)]
    clear rd
    generalize l.length = m at *
    clear h hc
    go_enter Tryd.func15, Tryd.ntmps15
    go_wp2
    go_ret
    exact ⟨rfl, rfl⟩
end Go.Proofs.YtjbpnhibgafdmaaDoor
