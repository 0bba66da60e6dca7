/-
  The document's own masks (offertoryref16: Own, Pair, Rise, Masks): what they answer.
-/
import Derived.Test.YtjbpnhibgafdmaaDoorMaskN
import Derived.Test.YtjbpnhibgafdmaaDoorMgVec
import Derived.Test.YtjbpnhibgafdmaaDoorMgDer
namespace Go.Proofs.YtjbpnhibgafdmaaDoor
open Go.RowKit Cha M Vec Sl Mk
set_option linter.unusedVariables false

set_option maxHeartbeats 1000000 in
theorem refOwn_any (s : List Nat) (hl : s.length = 32) (hb : ∀ x ∈ s, x < 256) (n : Int) (w : World) :
    Calls Tryd.prog 12 #[.agg (nums .u8 s).toArray, .int .i64 n] w fun e w' =>
      ∃ g, w.heap.size ≤ g ∧ e = .returned (.slice (some ⟨g, 0, none⟩) (kept n 256) (kept n 256)) ∧ Row w' g 41 (nums .u32 (ownV s (kept n 256))) ∧ Old w w' := by
  have C := hide (fun w' : World => refVector_any s hl hb 4 (by omega) n w')
  have R0 : Hid (Row (w.alloc (.cells (nums .u8 s).toArray 22)) w.heap.size 22 (nums .u8 s)) := Row.new w _ _
  have O0 := Old.of_alloc w (.cells (nums .u8 s).toArray 22)
  have HI : Hid ((Tryd.prog.info? 22).map (·.size) = some (nums .u8 s).length) := info_k' hl
  unfold ownV
  clear hl hb
  generalize kept n 256 = m at *
  go_enter Tryd.func12, Tryd.ntmps12
  go_wp2_with (refine wp_load_whole rfl 22 _ rfl w.heap.size rfl R0.out Tryd.underlying22 rfl HI.out ?_)
  refine (C.out _).mono ?_
  rintro e w1 ⟨g, g0, rfl, g1, o1⟩
  go_wp2
  go_ret
  exact ⟨g, Nat.le_trans O0.size g0, rfl, g1, O0.trans o1⟩

set_option maxHeartbeats 1000000 in
theorem refPair_any (q : Nat) (hq : q < 18446744073709551616) (n : Int) (w : World) :
    Calls Tryd.prog 14 #[.int .u64 q, .int .i64 n] w fun e w' =>
      ∃ g, w.heap.size ≤ g ∧ e = .returned (.slice (some ⟨g, 0, none⟩) (kept n 256) (kept n 256)) ∧ Row w' g 41 (nums .u32 (pairV q (kept n 256))) ∧ Old w w' := by
  have C1 := hide (fun w' : World => refDerive_any q hq 2 (by omega) w')
  have C2 := hide (fun w' : World => refVector_any (derive q 2) (derive_length _ _) (derive_lt _ _) 3 (by omega) n w')
  unfold pairV
  clear hq
  generalize derive q 2 = de at *
  generalize kept n 256 = m at *
  go_enter Tryd.func14, Tryd.ntmps14
  go_wp2_with fail
  refine (C1.out _).mono ?_
  rintro e w1 ⟨rfl, o1⟩
  go_wp2_with fail
  refine (C2.out _).mono ?_
  rintro e w2 ⟨g, g0, rfl, g1, o2⟩
  go_wp2
  go_ret
  exact ⟨g, Nat.le_trans o1.size g0, rfl, g1, o1.trans o2⟩

set_option maxRecDepth 100000 in
set_option maxHeartbeats 4000000 in
theorem refRise_any (l : List Crd) (a : Option Addr) (n cap : Nat) (hl : l.length = n) (hn : n ≤ 9223372036854775807) (w : World) (rd : CrdIn w a l) :
    Calls Tryd.prog 32 #[.slice a n cap] w fun e w' => e = .returned (.bool (riseB l)) ∧ Old w w' := by
  have HL := hide hl
  have HN := hide hn
  have RD := hide rd
  clear hl hn rd
  go_enter Tryd.func32, Tryd.ntmps32
  go_wp2_with fail
  go_loopw [3] (fun vi wr => ∃ i : Nat, i ≤ n ∧ vi = .int .i64 (i : Int) ∧ Hid (riseTo l i = true) ∧ Hid (Old w wr)) (fun vi _ => n - (intOf vi).toNat)
  case atStart => exact ⟨0, Nat.zero_le _, rfl, rfl, Old.refl _⟩
  case round =>
    obtain ⟨i, hi, rfl, HT, O⟩ := hrel
    by_cases hlt : i < n
    · have t1 : decide ((i : Int) < (n : Int)) = true := by simp; omega
      have q0 : (0 : Int) ≤ i := by omega
      have q1 : (i : Int) < n := by omega
      have iw : wrap64 ((i : Int) + 1) = ((i + 1 : Nat) : Int) := by have := HN.out; unfold wrap64; omega
      have hil : i < l.length := by rw [HL.out]; exact hlt
      obtain ⟨b, off, rfl, cx, -, -⟩ := (RD.out.mono O.out) i l[i] (by simp [hil])
      have NX := hide (riseTo_next l i)
      rw [HT.out, Bool.true_and, whoAt_eq (x := l[i]) (by simp [hil])] at NX
      have BAD : Hid (riseTo l (i + 1) = false → riseB l = false) := fun h => riseTo_bad h l.length (by omega)
      generalize l[i].who = x at *
      by_cases h1 : x < 1
      · have t2 : decide (x < 1) = true := decide_eq_true h1
        have E : Hid (riseB l = false) := BAD.out (by rw [NX.out, decide_eq_false (by omega)]; rfl)
        clear NX BAD h1
        go_wp2_with fail
        go_quiet (fail)
        go_wp2
        go_ret
        exact ⟨by rw [E.out]; rfl, O.out.drewN _⟩
      · have t2 : decide (x < 1) = false := decide_eq_false h1
        rw [decide_eq_true (show 1 ≤ x by omega), Bool.true_and] at NX
        by_cases h2 : 64 < x
        · have t3 : decide (64 < x) = true := decide_eq_true h2
          have E : Hid (riseB l = false) := BAD.out (by rw [NX.out, decide_eq_false (by omega)]; rfl)
          clear NX BAD h1 h2
          go_wp2_with fail
          go_quiet (fail)
          go_wp2
          go_ret
          exact ⟨by rw [E.out]; rfl, O.out.drewN _⟩
        · have t3 : decide (64 < x) = false := decide_eq_false h2
          rw [decide_eq_true (show x ≤ 64 by omega), Bool.true_and] at NX
          clear h1 h2
          by_cases h0 : i = 0
          · have t4 : decide ((0 : Int) < (i : Int)) = false := decide_eq_false (by omega)
            have t4' : decide (0 < i) = false := decide_eq_false (by omega)
            have E : Hid (riseTo l (i + 1) = true) := by rw [NX.out, decide_eq_true h0]; rfl
            clear NX BAD h0
            go_wp2_with fail
            go_quiet (fail)
            go_wp2
            try rw [iw]
            go_roundw
            case rel => exact ⟨i + 1, by omega, by simp, E, O.out.drewN _⟩
            case measure => simp [intOf]; omega
          · have t4 : decide ((0 : Int) < (i : Int)) = true := by simp; omega
            have t4' : decide (0 < i) = true := by simp; omega
            obtain ⟨b2, off2, e2, cy, -, -⟩ := (RD.out.mono O.out) (i - 1) l[i - 1] (by simp [show i - 1 < l.length by omega])
            obtain ⟨rfl, rfl⟩ : b = b2 ∧ off = off2 := by simpa using e2
            rw [whoAt_eq (x := l[i - 1]) (by simp [show i - 1 < l.length by omega])] at NX
            generalize l[i - 1].who = y at *
            obtain ⟨j, hj⟩ : ∃ j, j = i - 1 := ⟨_, rfl⟩
            rw [← hj] at cy
            have ej : wrap64 ((i : Int) - 1) = (j : Int) := by have := HN.out; unfold wrap64; omega
            have j0 : (0 : Int) ≤ j := by omega
            have j1 : (j : Int) < n := by omega
            rw [decide_eq_false h0, Bool.false_or] at NX
            clear e2 h0 hj
            by_cases hxy : y < x
            · have t5 : decide (x ≤ y) = false := decide_eq_false (by omega)
              have E : Hid (riseTo l (i + 1) = true) := by rw [NX.out]; exact decide_eq_true hxy
              clear NX BAD hxy
              go_wp2_with fail
              go_quiet (fail)
              go_wp2
              try rw [iw]
              go_roundw
              case rel => exact ⟨i + 1, by omega, by simp, E, O.out.drewN _⟩
              case measure => simp [intOf]; omega
            · have t5 : decide (x ≤ y) = true := decide_eq_true (by omega)
              have E : Hid (riseB l = false) := BAD.out (by rw [NX.out]; exact decide_eq_false hxy)
              clear NX BAD hxy
              go_wp2_with fail
              go_quiet (fail)
              go_wp2
              go_ret
              exact ⟨by rw [E.out]; rfl, O.out.drewN _⟩
    · obtain rfl : i = n := by omega
      have t1 : decide ((i : Int) < (i : Int)) = false := by simp
      have E : Hid (riseB l = true) := by show _ = _; unfold riseB; rw [HL.out]; exact HT.out
      go_wp2
      go_ret
      exact ⟨by rw [E.out]; rfl, O.out⟩
end Go.Proofs.YtjbpnhibgafdmaaDoor
