/-
  The library's strconv.FormatUint in tens (its own text, walked; the digits by the library's contracts).
-/
import Derived.Test.YtindmmipncclbaaDoorWideC
import Derived.Test.YtindmmipncclbaaDoorShelf9
import Derived.Lib.AppendIntMem
import Derived.BigCall
namespace Go.Proofs.YtindmmipncclbaaDoor
open Go.RowKit Wd Go.Sort
set_option linter.unusedVariables false

abbrev b8 : UInt8 → Value := fun b => Value.int .u8 (b.toNat : Int)
theorem holds_zero0 (w : World) (T : TypeId) (nd : Nat) (hs : nd ≤ 24) : Holds b8 (w.alloc (.cells Lib.zeros24 T)) w.heap.size 0 (Array.replicate nd (0 : UInt8)) := fun j hj => by
  have hj' : j < nd := by simpa using hj
  refine ⟨?_, World.frozen?_alloc_new _ _ _ _⟩
  rw [World.cell?_alloc_new, Lib.zeros24_at _ (by omega), getElem!_pos _ j hj]
  simp
theorem fin_old (w : World) (o : Obj) (dk : Array UInt8) (k : Nat) : Old w ((putRow b8 (w.alloc o) w.heap.size 0 dk).drewN k) := by
  rw [alloc_eq_grow]
  obtain ⟨os', _, e⟩ := putRow_grow_new b8 w #[o] w.heap.size 0 dk (Nat.le_refl _)
  rw [e]
  exact Lib.below_grow _ w (Nat.le_refl _) k os'

theorem small_any (i : Nat) (h : i < 100) (w : World) : Calls Tryd.prog 42 #[.int .i64 (i : Nat)] w fun e w' => e = .returned (.string ⟨(Lib.decDigits i).toArray⟩) ∧ w' = w := Any.internal_strconv_small smallLays i h w
theorem digits_any (u : Nat) (h1 : 1 ≤ u) (h2 : u < 18446744073709551616) (w : World) (T : Tab9 w) : Calls Tryd.prog 43 #[.int .u64 (u : Nat)] w fun e w' => e = .returned (.int .i64 (Lib.nDigits u : Nat)) ∧ w' = w := Any.internal_strconv_numDigits digitsLays u h1 h2 w T
theorem base10_any (blk off cap u : Nat) (d : Array UInt8) (w : World) (hH : Holds b8 w blk off d) (hu : u < 10 ^ d.size) (hu64 : u < 18446744073709551616) (hsz : d.size < 4611686018427387904) :
    Calls Tryd.prog 44 #[.slice (some ⟨blk, off, none⟩) d.size cap, .int .u64 (u : Nat)] w fun e w' => e = .returned (.tuple #[]) ∧ ∃ (n v' : Nat) (dk : Array UInt8), w' = (putRow b8 w blk off dk).drewN n ∧ Lib.FmtInv d.size u 0 v' dk := Any.internal_strconv_formatBase10 base10Lays blk off cap u d w hH hu hu64 hsz

set_option maxHeartbeats 2000000 in
set_option maxRecDepth 100000 in
theorem FmtI_any (u : Nat) (hu : u < 18446744073709551616) (w : World) (T : Tab9 w) :
    Calls Tryd.prog 34 #[.int .u64 (u : Nat), .int .i64 10] w fun e w' => e = .returned (.string ⟨(Lib.decDigits u).toArray⟩) ∧ Old w w' := by
  by_cases hs : u < 100
  · have t1 : decide ((u : Int) < 100) = true := by simp; omega
    go_enter Tryd.func34, Tryd.ntmps34
    go_wp2_with (refine (small_any u hs _).mono ?_; rintro e w' ⟨rfl, rfl⟩)
    go_ret
    exact ⟨rfl, Old.refl _⟩
  · have t1 : decide ((u : Int) < 100) = false := by simp; omega
    have hnd20 : Lib.nDigits u ≤ 20 := by have := Lib.numDigits_eq u (by omega) hu; split at this <;> omega
    have hp : 0 ≤ (Lib.nDigits u : Int) := by omega
    have hal : Tryd.prog.arrayLen 72 = 24 := by simp [Program.arrayLen, Tryd.underlying72]
    have hsl : ∀ W, (Instr.sliceAt 72 (.pointer (some ⟨w.heap.size, 0, none⟩)) none (some (.int .i64 (Lib.nDigits u : Int))) none).run Tryd.prog W = .ok (.slice (some ⟨w.heap.size, 0, none⟩) (Lib.nDigits u) 24) W := fun W => by
      rw [run_sliceAt_array_h W 72 ⟨w.heap.size, 0, none⟩ (by simp [Program.arrayLen, Program.elem, Tryd.underlying72]) .i64 (Lib.nDigits u : Int) (by omega) (by rw [hal]; omega)]
      go_simp
      try omega
    have hH0 := holds_zero0 w 72 (Lib.nDigits u) (by omega)
    have hfmt := base10_any w.heap.size 0 24 u (Array.replicate (Lib.nDigits u) 0) (w.alloc (.cells Lib.zeros24 72)) hH0 (by rw [Array.size_replicate]; exact Lib.lt_pow_nDigits u) hu (by rw [Array.size_replicate]; omega)
    rw [Array.size_replicate] at hfmt
    have HH0 := hide hH0
    have HF := hide hfmt
    have C := hide (digits_any u (by omega) hu _ (T.mono (Old.of_alloc w (.cells Lib.zeros24 72))))
    clear hH0 hfmt hal
    go_enter Tryd.func34, Tryd.ntmps34
    go_wp2_with fail
    refine (C.out).mono ?_
    rintro e w1 ⟨rfl, rfl⟩
    go_wp2_with fail
    refine (HF.out).mono ?_
    rintro e w1 ⟨rfl, k, v', dk, rfl, hF⟩
    have hcv : (convert 55 9 (.slice (some ⟨w.heap.size, 0, none⟩) (Lib.nDigits u) 24)).run Tryd.prog ((putRow b8 (w.alloc (.cells Lib.zeros24 72)) w.heap.size 0 dk).drewN k) = .ok (.string ⟨(Lib.decDigits u).toArray⟩) ((putRow b8 (w.alloc (.cells Lib.zeros24 72)) w.heap.size 0 dk).drewN k) := by
      have h := run_convert_bytes_back (P := Tryd.prog) ((putRow b8 (w.alloc (.cells Lib.zeros24 72)) w.heap.size 0 dk).drewN k) 55 9 5 ⟨w.heap.size, 0, none⟩ 24 (Lib.decDigits u) Tryd.underlying55 Tryd.underlying5 Tryd.underlying9 (fun j hj => by
        rw [Lib.row_is_numeral hF j hj, Lib.add_plain, World.cell?_drewN]
        exact cell?_putRow b8 _ w.heap.size 0 _ dk HH0.out (by rw [hF.size, Array.size_replicate]) j (by rw [hF.size]; rw [Lib.decDigits_length] at hj; exact hj))
      rw [Lib.decDigits_length] at h
      exact h
    go_wp2
    go_ret
    exact ⟨rfl, fin_old _ _ _ _⟩

theorem Fmt_any (u : Nat) (hu : u < 18446744073709551616) (w : World) (T : Tab9 w) :
    Calls Tryd.prog 30 #[.int .u64 (u : Nat), .int .i64 10] w fun e w' => e = .returned (.string ⟨(Lib.decDigits u).toArray⟩) ∧ Old w w' := by
  have C := hide (FmtI_any u hu w T)
  go_enter Tryd.func30, Tryd.ntmps30
  go_wp2_with fail
  refine C.out.mono ?_
  rintro e w' ⟨rfl, o⟩
  go_wp2
  go_ret
  exact ⟨rfl, o⟩
end Go.Proofs.YtindmmipncclbaaDoor
