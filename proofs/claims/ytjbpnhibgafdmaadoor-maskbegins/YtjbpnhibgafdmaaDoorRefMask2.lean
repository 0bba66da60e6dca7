/-
  The document's own masks of two (offertoryref16.Masks): what they come to.
-/
import Derived.Test.YtjbpnhibgafdmaaDoorRefMask
import Derived.BigRegion
namespace Go.Proofs.YtjbpnhibgafdmaaDoor
open Go.RowKit Cha M Vec Sl Mk
set_option linter.unusedVariables false

theorem make_u32 (n : Nat) (hn : n ≤ 1073741824) : ∀ w : World, (Instr.makeSlice 24 (.int .i64 (n : Int)) (.int .i64 (n : Int))).run Tryd.prog w = .ok (.slice (some ⟨w.heap.size, 0, none⟩) n n) (w.alloc (.cells (nums .u32 (List.replicate n 0)).toArray 41)) :=
  make_nums (B := 4) Tryd.underlying24 (by kernel_rfl) n (by omega) (by omega)
theorem add32_int (x y : Nat) : ((x : Int) + (y : Int)) % 4294967296 = ((add32 x y : Nat) : Int) := by unfold add32; omega
theorem sub32_int (x y : Nat) (h : y < 4294967296) : ((x : Int) - (y : Int)) % 4294967296 = ((sub32 x y : Nat) : Int) := by unfold sub32; omega
/-- Two rows: one of the call's own, and one beside it. -/
structure RV (w : World) (g gm : Nat) (xs ys : List Nat) (wr : World) : Prop where
  a : Row wr g 41 (nums .u32 xs)
  b : Row wr gm 41 (nums .u32 ys)
  ne : g ≠ gm
  le : w.heap.size ≤ g
  old : Old w wr
theorem RV.set {w : World} {g gm : Nat} {xs ys : List Nat} {wr : World} (h : RV w g gm xs ys wr) (i z : Nat) : RV w g gm (xs.set i z) ys (wr.setCell ⟨g, i, none⟩ (.int .u32 (z : Int))) :=
  ⟨by rw [← nums_set]; exact h.a.set _ _, h.b.grown (grown_set _ _ _ _) h.ne.symm, h.ne, h.le, h.old.grown (grown_set _ _ _ _) h.le⟩
theorem RV.drewN {w : World} {g gm : Nat} {xs ys : List Nat} {wr : World} (h : RV w g gm xs ys wr) (n : Nat) : RV w g gm xs ys (wr.drewN n) := ⟨h.a.drewN n, h.b.drewN n, h.ne, h.le, h.old.drewN n⟩

set_option maxHeartbeats 2000000 in
theorem refMasks_arg (who : Int) (s : Nat) (l : List Crd) (a : Option Addr) (m cap : Nat) (n : Int) (turned : Bool) (hl : l.length = m) (hm : m ≤ 9223372036854775807) (w : World) (rd : CrdIn w a l) (hB : argB who n l = false) :
    Calls Tryd.prog 17 #[.int .i64 who, .int .u64 s, .slice a m cap, .int .i64 n, .bool turned] w fun e w' => e = .returned (.tuple #[.slice none 0 0, .int .i64 1]) ∧ Old w w' := by
  have C := hide (fun (w' : World) (o : Old w w') => refRise_any l a m cap hl hm w' (rd.mono o))
  clear hl hm rd
  by_cases h1 : who < 1
  · have t1 : decide (who < 1) = true := decide_eq_true h1
    clear hB h1 C
    go_enter Tryd.func17, Tryd.ntmps17
    go_wp2
    go_ret2
    exact ⟨rfl, Old.refl _⟩
  · have t1 : decide (who < 1) = false := decide_eq_false h1
    by_cases h2 : 64 < who
    · have t2 : decide (64 < who) = true := decide_eq_true h2
      clear hB h1 h2 C
      go_enter Tryd.func17, Tryd.ntmps17
      go_wp2
      go_ret2
      exact ⟨rfl, Old.refl _⟩
    · have t2 : decide (64 < who) = false := decide_eq_false h2
      by_cases h3 : n < 0
      · have t3 : decide (n < 0) = true := decide_eq_true h3
        clear hB h1 h2 h3 C
        go_enter Tryd.func17, Tryd.ntmps17
        go_wp2
        go_ret2
        exact ⟨rfl, Old.refl _⟩
      · have t3 : decide (n < 0) = false := decide_eq_false h3
        by_cases h4 : 256 < n
        · have t4 : decide (256 < n) = true := decide_eq_true h4
          clear hB h1 h2 h3 h4 C
          go_enter Tryd.func17, Tryd.ntmps17
          go_wp2
          go_ret2
          exact ⟨rfl, Old.refl _⟩
        · have t4 : decide (256 < n) = false := decide_eq_false h4
          have hr : riseB l = false := by
            unfold argB at hB
            rw [decide_eq_true (show 1 ≤ who by omega), decide_eq_true (show who ≤ 64 by omega), decide_eq_true (show 0 ≤ n by omega), decide_eq_true (show n ≤ 256 by omega)] at hB
            simpa using hB
          rw [hr] at C
          clear hB h1 h2 h3 h4 hr
          go_enter Tryd.func17, Tryd.ntmps17
          go_wp2_with fail
          refine (C.out _ (Old.refl _)).mono ?_
          rintro e w1 ⟨rfl, o1⟩
          go_wp2
          go_ret2
          exact ⟨rfl, o1⟩

set_option maxRecDepth 100000 in
set_option maxHeartbeats 8000000 in
theorem refMasks_run (who : Int) (s : Nat) (l : List Crd) (a : Option Addr) (m cap n : Nat) (turned : Bool) (hl : l.length = m) (hm : m ≤ 9223372036854775807) (hs : s < 18446744073709551616) (hk : CrdOk l) (w : World) (rd : CrdIn w a l) (hB : argB who n l = true) :
    Calls Tryd.prog 17 #[.int .i64 who, .int .u64 s, .slice a m cap, .int .i64 n, .bool turned] w fun e w' =>
      (mskE who s l ≠ 0 → e = .returned (.tuple #[.slice none 0 0, .int .i64 (mskE who s l : Nat)])) ∧
      (mskE who s l = 0 → ∃ g, w.heap.size ≤ g ∧ e = .returned (.tuple #[.slice (some ⟨g, 0, none⟩) n n, .int .i64 0]) ∧ Row w' g 41 (nums .u32 (mskL who s n turned l))) ∧ Old w w' := by
  have C := hide (fun (w' : World) (o : Old w w') => refRise_any l a m cap hl hm w' (rd.mono o))
  have RD := hide rd
  have HL := hide hl
  have HK := hide hk
  have HM := hide hm
  have HS := hide hs
  obtain ⟨⟨⟨h1, h2⟩, h3, h4⟩, hr⟩ : ((1 ≤ who ∧ who ≤ 64) ∧ 0 ≤ (n : Int) ∧ (n : Int) ≤ 256) ∧ riseB l = true := by
    unfold argB at hB
    simpa [Bool.and_eq_true, decide_eq_true_eq] using hB
  rw [hr] at C
  have t1 : decide (who < 1) = false := decide_eq_false (by omega)
  have t2 : decide (64 < who) = false := decide_eq_false (by omega)
  have t3 : decide ((n : Int) < 0) = false := decide_eq_false (by omega)
  have t4 : decide ((256 : Int) < (n : Int)) = false := decide_eq_false (by omega)
  have hmk := make_u32 n (by omega)
  have n2 : n ≤ 256 := by omega
  have kn : Hid (kept (n : Int) 256 = n) := by show _ = _; unfold kept; omega
  have n0 : (0 : Int) ≤ (n : Int) := h3
  clear hB h1 h2 h4 hr hl hm rd hk hs h3
  go_enter Tryd.func17, Tryd.ntmps17
  go_wp2_with fail
  refine (C.out _ (Old.refl _)).mono ?_
  rintro e w1 ⟨rfl, o1⟩
  clear C
  go_wp2_with fail
  have X0 : Hid (Row (w1.alloc (.cells (nums .u32 (List.replicate n 0)).toArray 41)) w1.heap.size 41 (nums .u32 (mskL who s n turned (l.take 0))) ∧ w.heap.size ≤ w1.heap.size ∧ Old w (w1.alloc (.cells (nums .u32 (List.replicate n 0)).toArray 41)) ∧ mskE who s (l.take 0) = 0) :=
    ⟨Row.new _ _ _, o1.size, o1.alloc _, rfl⟩
  clear hmk o1
  generalize w1.heap.size = g at *
  go_loopw [13] (fun vi wr => ∃ i : Nat, i ≤ m ∧ vi = .int .i64 (i : Int) ∧ Hid (Row wr g 41 (nums .u32 (mskL who s n turned (l.take i))) ∧ w.heap.size ≤ g ∧ Old w wr ∧ mskE who s (l.take i) = 0)) (fun vi _ => m - (intOf vi).toNat)
  case atStart => exact ⟨0, Nat.zero_le _, rfl, X0⟩
  case round =>
    clear X0
    obtain ⟨i, hi, rfl, R⟩ := hrel
    by_cases him : i = m
    · subst him
      have TA : l.take i = l := List.take_of_length_le (by rw [HL.out]; exact Nat.le_refl _)
      rw [TA] at R
      have ti : decide ((i : Int) < (i : Int)) = false := by simp
      clear TA
      go_wp2
      go_ret2
      exact ⟨fun h => absurd R.out.2.2.2 h, fun _ => ⟨g, R.out.2.1, rfl, R.out.1⟩, R.out.2.2.1⟩
    · have hlt : i < m := by omega
      have hil : i < l.length := by rw [HL.out]; exact hlt
      have ti : decide ((i : Int) < (m : Int)) = true := by simp; omega
      have q0 : (0 : Int) ≤ i := by omega
      have q1 : (i : Int) < m := by omega
      have iw : wrap64 ((i : Int) + 1) = ((i + 1 : Nat) : Int) := by have := HM.out; unfold wrap64; omega
      obtain ⟨b, off, rfl, cx0, -, ck0⟩ := RD.out i l[i] (by simp [hil])
      have cx := R.out.2.2.1.cell cx0
      have ck := R.out.2.2.1.cell ck0
      have CX := hide cx0
      have kb := (HK.out l[i] (by simp)).2.2.2
      have NL := hide (mskL_next who s n turned (l := l) (k := i) (c := l[i]) (by simp [hil]))
      have NE := hide (mskE_next who s (l := l) (k := i) (c := l[i]) (by simp [hil]) R.out.2.2.2)
      generalize l[i] = c at *
      by_cases hw : c.who = who
      · have tw : (c.who == who) = true := by rw [beq_iff_eq]; exact hw
        have R2 : Hid (Row wr g 41 (nums .u32 (mskL who s n turned (l.take (i + 1)))) ∧ w.heap.size ≤ g ∧ Old w wr ∧ mskE who s (l.take (i + 1)) = 0) := by
          refine ⟨?_, R.out.2.1, R.out.2.2.1, ?_⟩
          · rw [NL.out, mskS, if_pos hw]; exact R.out.1
          · rw [NE.out, if_pos hw]
        clear hw NL NE R CX ck0 cx0
        go_wp2
        try rw [iw]
        go_roundw
        case rel => exact ⟨i + 1, by omega, by simp, R2⟩
        case measure => simp [intOf]; omega
      · have tw : (c.who == who) = false := by rw [beq_eq_false_iff_ne]; exact hw
        rw [if_neg hw] at NE
        have CA := hide (refAgree16_any s c.key HS.out kb)
        by_cases hE : agE s c.key = 0
        · have qn : agN s c.key = powP c.key s := by unfold agN; rw [if_pos hE]
          have ql : powP c.key s < 18446744073709551616 := Nat.lt_trans (powP_lt _ _) (by decide)
          have CP := hide (fun w' : World => refPair_any (powP c.key s) ql n w')
          rw [kn.out] at CP
          rw [hE, qn] at CA
          rw [hE] at NE
          have ML := hide (mskL_length who s n turned (l.take i))
          have PL := hide (pairV_length (powP c.key s) n)
          have PB := hide (pairV_lt (powP c.key s) n)
          have NS : Hid (mskL who s n turned (l.take (i + 1)) = List.zipWith (sgn who c.who turned) (mskL who s n turned (l.take i)) (pairV (powP c.key s) n)) := by
            show _ = _
            rw [NL.out, mskS, if_neg hw]
          generalize pairV (powP c.key s) n = ps at *
          generalize powP c.key s = q at *
          generalize mskL who s n turned (l.take i) = ms at *
          clear hE qn ql hw NL kb ck0 cx0
          go_wp2_with fail
          refine (CA.out _).mono ?_
          rintro e w2 ⟨rfl, rfl⟩
          clear CA
          go_wp2_with fail
          refine (CP.out _).mono ?_
          rintro e w3 ⟨gm, gm0, rfl, gm1, o3⟩
          have V0 : Hid (RV w g gm ms ps w3) := ⟨R.out.1.mono o3, gm1, by have := R.out.1.lt; omega, R.out.2.1, R.out.2.2.1.trans o3⟩
          clear CP gm0 gm1 o3
          cases turned <;> by_cases hx : who < c.who
          · have tx : decide (who < c.who) = true := decide_eq_true hx
            have SG : Hid (sgn who c.who false = add32) := by show _ = _; unfold sgn; rw [tx]; rfl
            rw [SG.out] at NS
            have W0 : Hid (RV w g gm (vpart add32 0 ms ps) ps w3) := by show RV _ _ _ _ _ _; rw [vpart_zero]; exact V0.out
            clear V0 SG hx R
            go_wp2_with fail
            go_loopw [17] (fun vj wr => ∃ j : Nat, j ≤ n ∧ vj = .int .i64 (j : Int) ∧ Hid (RV w g gm (vpart add32 j ms ps) ps wr)) (fun vj _ => n - (intOf vj).toNat)
            case atStart => exact ⟨0, Nat.zero_le _, rfl, W0⟩
            case round =>
              clear W0
              obtain ⟨j, hj, rfl, V⟩ := hrel
              by_cases hjn : j = n
              · subst hjn
                have R2 : Hid (Row wr g 41 (nums .u32 (mskL who s j false (l.take (i + 1)))) ∧ w.heap.size ≤ g ∧ Old w wr ∧ mskE who s (l.take (i + 1)) = 0) := by
                  refine ⟨?_, V.out.le, V.out.old, NE.out⟩
                  rw [NS.out, ← vpart_all _ j _ _ ML.out PL.out]
                  exact V.out.a
                have tj : decide ((j : Int) < (j : Int)) = false := by simp
                clear V NS NE
                go_wp2
                try rw [iw]
                go_roundw
                case rel => exact ⟨i + 1, by omega, by simp, R2⟩
                case measure => simp [intOf]; omega
              · have hjl : j < n := by omega
                obtain ⟨y, Hy, cy⟩ := V.out.b.num (i := j) (by rw [PL.out]; exact hjl)
                have hms : j < ms.length := by rw [ML.out]; exact hjl
                have hvl : (vpart add32 j ms ps).length = ms.length := vpart_length _ _ _ _ (by rw [ML.out, PL.out])
                obtain ⟨x, Hx, cz⟩ := V.out.a.num (i := j) (by rw [hvl]; exact hms)
                have fx := V.out.a.free j
                have gx := vpart_get add32 j ms ps (by rw [ML.out, PL.out]) hms
                have VS := vpart_step add32 j ms ps (by rw [ML.out, PL.out]) x y (by rw [← gx]; exact Hx.out) Hy.out
                have V2 := hide (V.out.set j (add32 x y))
                rw [VS] at V2
                have EV := hide (add32_int x y)
                have cxx := V.out.old.cell CX.out
                have j0 : (0 : Int) ≤ j := by omega
                have j1 : (j : Int) < n := by omega
                clear gx VS hvl hms
                go_wp2_with fail
                go_region
                go_wp2
                go_roundw
                case rel =>
                  refine ⟨j + 1, by omega, by go_num, ?_⟩
                  rw [EV.out]
                  exact V2.out.drewN 1
                case measure => simp [intOf]; omega
          · have tx : decide (who < c.who) = false := decide_eq_false hx
            have SG : Hid (sgn who c.who false = sub32) := by show _ = _; unfold sgn; rw [tx]; rfl
            rw [SG.out] at NS
            have W0 : Hid (RV w g gm (vpart sub32 0 ms ps) ps w3) := by show RV _ _ _ _ _ _; rw [vpart_zero]; exact V0.out
            clear V0 SG hx R
            go_wp2_with fail
            go_loopw [17] (fun vj wr => ∃ j : Nat, j ≤ n ∧ vj = .int .i64 (j : Int) ∧ Hid (RV w g gm (vpart sub32 j ms ps) ps wr)) (fun vj _ => n - (intOf vj).toNat)
            case atStart => exact ⟨0, Nat.zero_le _, rfl, W0⟩
            case round =>
              clear W0
              obtain ⟨j, hj, rfl, V⟩ := hrel
              by_cases hjn : j = n
              · subst hjn
                have R2 : Hid (Row wr g 41 (nums .u32 (mskL who s j false (l.take (i + 1)))) ∧ w.heap.size ≤ g ∧ Old w wr ∧ mskE who s (l.take (i + 1)) = 0) := by
                  refine ⟨?_, V.out.le, V.out.old, NE.out⟩
                  rw [NS.out, ← vpart_all _ j _ _ ML.out PL.out]
                  exact V.out.a
                have tj : decide ((j : Int) < (j : Int)) = false := by simp
                clear V NS NE
                go_wp2
                try rw [iw]
                go_roundw
                case rel => exact ⟨i + 1, by omega, by simp, R2⟩
                case measure => simp [intOf]; omega
              · have hjl : j < n := by omega
                obtain ⟨y, Hy, cy⟩ := V.out.b.num (i := j) (by rw [PL.out]; exact hjl)
                have hms : j < ms.length := by rw [ML.out]; exact hjl
                have hvl : (vpart sub32 j ms ps).length = ms.length := vpart_length _ _ _ _ (by rw [ML.out, PL.out])
                obtain ⟨x, Hx, cz⟩ := V.out.a.num (i := j) (by rw [hvl]; exact hms)
                have fx := V.out.a.free j
                have gx := vpart_get sub32 j ms ps (by rw [ML.out, PL.out]) hms
                have VS := vpart_step sub32 j ms ps (by rw [ML.out, PL.out]) x y (by rw [← gx]; exact Hx.out) Hy.out
                have V2 := hide (V.out.set j (sub32 x y))
                rw [VS] at V2
                have EV := hide (sub32_int x y (PB.out y (List.mem_of_getElem? Hy.out)))
                have cxx := V.out.old.cell CX.out
                have j0 : (0 : Int) ≤ j := by omega
                have j1 : (j : Int) < n := by omega
                clear gx VS hvl hms
                go_wp2_with fail
                go_region
                go_wp2
                go_roundw
                case rel =>
                  refine ⟨j + 1, by omega, by go_num, ?_⟩
                  rw [EV.out]
                  exact V2.out.drewN 1
                case measure => simp [intOf]; omega
          · have tx : decide (who < c.who) = true := decide_eq_true hx
            have SG : Hid (sgn who c.who true = sub32) := by show _ = _; unfold sgn; rw [tx]; rfl
            rw [SG.out] at NS
            have W0 : Hid (RV w g gm (vpart sub32 0 ms ps) ps w3) := by show RV _ _ _ _ _ _; rw [vpart_zero]; exact V0.out
            clear V0 SG hx R
            go_wp2_with fail
            go_loopw [17] (fun vj wr => ∃ j : Nat, j ≤ n ∧ vj = .int .i64 (j : Int) ∧ Hid (RV w g gm (vpart sub32 j ms ps) ps wr)) (fun vj _ => n - (intOf vj).toNat)
            case atStart => exact ⟨0, Nat.zero_le _, rfl, W0⟩
            case round =>
              clear W0
              obtain ⟨j, hj, rfl, V⟩ := hrel
              by_cases hjn : j = n
              · subst hjn
                have R2 : Hid (Row wr g 41 (nums .u32 (mskL who s j true (l.take (i + 1)))) ∧ w.heap.size ≤ g ∧ Old w wr ∧ mskE who s (l.take (i + 1)) = 0) := by
                  refine ⟨?_, V.out.le, V.out.old, NE.out⟩
                  rw [NS.out, ← vpart_all _ j _ _ ML.out PL.out]
                  exact V.out.a
                have tj : decide ((j : Int) < (j : Int)) = false := by simp
                clear V NS NE
                go_wp2
                try rw [iw]
                go_roundw
                case rel => exact ⟨i + 1, by omega, by simp, R2⟩
                case measure => simp [intOf]; omega
              · have hjl : j < n := by omega
                obtain ⟨y, Hy, cy⟩ := V.out.b.num (i := j) (by rw [PL.out]; exact hjl)
                have hms : j < ms.length := by rw [ML.out]; exact hjl
                have hvl : (vpart sub32 j ms ps).length = ms.length := vpart_length _ _ _ _ (by rw [ML.out, PL.out])
                obtain ⟨x, Hx, cz⟩ := V.out.a.num (i := j) (by rw [hvl]; exact hms)
                have fx := V.out.a.free j
                have gx := vpart_get sub32 j ms ps (by rw [ML.out, PL.out]) hms
                have VS := vpart_step sub32 j ms ps (by rw [ML.out, PL.out]) x y (by rw [← gx]; exact Hx.out) Hy.out
                have V2 := hide (V.out.set j (sub32 x y))
                rw [VS] at V2
                have EV := hide (sub32_int x y (PB.out y (List.mem_of_getElem? Hy.out)))
                have cxx := V.out.old.cell CX.out
                have j0 : (0 : Int) ≤ j := by omega
                have j1 : (j : Int) < n := by omega
                clear gx VS hvl hms
                go_wp2_with fail
                go_region
                go_wp2
                go_roundw
                case rel =>
                  refine ⟨j + 1, by omega, by go_num, ?_⟩
                  rw [EV.out]
                  exact V2.out.drewN 1
                case measure => simp [intOf]; omega
          · have tx : decide (who < c.who) = false := decide_eq_false hx
            have SG : Hid (sgn who c.who true = add32) := by show _ = _; unfold sgn; rw [tx]; rfl
            rw [SG.out] at NS
            have W0 : Hid (RV w g gm (vpart add32 0 ms ps) ps w3) := by show RV _ _ _ _ _ _; rw [vpart_zero]; exact V0.out
            clear V0 SG hx R
            go_wp2_with fail
            go_loopw [17] (fun vj wr => ∃ j : Nat, j ≤ n ∧ vj = .int .i64 (j : Int) ∧ Hid (RV w g gm (vpart add32 j ms ps) ps wr)) (fun vj _ => n - (intOf vj).toNat)
            case atStart => exact ⟨0, Nat.zero_le _, rfl, W0⟩
            case round =>
              clear W0
              obtain ⟨j, hj, rfl, V⟩ := hrel
              by_cases hjn : j = n
              · subst hjn
                have R2 : Hid (Row wr g 41 (nums .u32 (mskL who s j true (l.take (i + 1)))) ∧ w.heap.size ≤ g ∧ Old w wr ∧ mskE who s (l.take (i + 1)) = 0) := by
                  refine ⟨?_, V.out.le, V.out.old, NE.out⟩
                  rw [NS.out, ← vpart_all _ j _ _ ML.out PL.out]
                  exact V.out.a
                have tj : decide ((j : Int) < (j : Int)) = false := by simp
                clear V NS NE
                go_wp2
                try rw [iw]
                go_roundw
                case rel => exact ⟨i + 1, by omega, by simp, R2⟩
                case measure => simp [intOf]; omega
              · have hjl : j < n := by omega
                obtain ⟨y, Hy, cy⟩ := V.out.b.num (i := j) (by rw [PL.out]; exact hjl)
                have hms : j < ms.length := by rw [ML.out]; exact hjl
                have hvl : (vpart add32 j ms ps).length = ms.length := vpart_length _ _ _ _ (by rw [ML.out, PL.out])
                obtain ⟨x, Hx, cz⟩ := V.out.a.num (i := j) (by rw [hvl]; exact hms)
                have fx := V.out.a.free j
                have gx := vpart_get add32 j ms ps (by rw [ML.out, PL.out]) hms
                have VS := vpart_step add32 j ms ps (by rw [ML.out, PL.out]) x y (by rw [← gx]; exact Hx.out) Hy.out
                have V2 := hide (V.out.set j (add32 x y))
                rw [VS] at V2
                have EV := hide (add32_int x y)
                have cxx := V.out.old.cell CX.out
                have j0 : (0 : Int) ≤ j := by omega
                have j1 : (j : Int) < n := by omega
                clear gx VS hvl hms
                go_wp2_with fail
                go_region
                go_wp2
                go_roundw
                case rel =>
                  refine ⟨j + 1, by omega, by go_num, ?_⟩
                  rw [EV.out]
                  exact V2.out.drewN 1
                case measure => simp [intOf]; omega
        · have tE : ((agE s c.key : Int) != 0) = true := by rw [bne_iff_ne]; omega
          have ST : Hid (mskE who s l = agE s c.key) := by
            show _ = _
            rw [mskE_stop who s (l := l) (k := i + 1) (by rw [NE.out]; exact hE), NE.out]
          have HE := hide hE
          clear hE hw NL NE kb ck0 cx0
          generalize agE s c.key = E at *
          go_wp2_with fail
          refine (CA.out _).mono ?_
          rintro e w2 ⟨rfl, rfl⟩
          go_wp2
          go_ret2
          rw [ST.out]
          exact ⟨fun _ => rfl, fun h => absurd h HE.out, R.out.2.2.1⟩
end Go.Proofs.YtjbpnhibgafdmaaDoor
