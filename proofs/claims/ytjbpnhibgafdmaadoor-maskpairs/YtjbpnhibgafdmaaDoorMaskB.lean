/-
  The landed mask, second part: a vector with masks laid over it (cover), and whose Who rise.
-/
import Derived.Test.YtjbpnhibgafdmaaDoorMaskA
namespace Go.Proofs.YtjbpnhibgafdmaaDoor
open Go.RowKit Cha M Vec Sl Mk
set_option linter.unusedVariables false

set_option maxHeartbeats 1000000 in
theorem both_addR (n : Nat) (xs ys : List Nat) (a b : Option Addr) (ca cb : Nat) (w : World) (hn : n ≤ 35184372088832)
    (hx : xs.length = n) (hy : ys.length = n) (rx : Rd w a (nums .u32 xs)) (ry : Rd w b (nums .u32 ys)) :
    Calls Tryd.prog 49 #[.func (.func 50) #[] #[], .slice a n ca, .slice b n cb] w fun e w' =>
      ∃ g, w.heap.size ≤ g ∧ e = .returned (.tuple #[.slice (some ⟨g, 0, none⟩) n n, .int .i64 0]) ∧ Row w' g 41 (nums .u32 (List.zipWith add32 xs ys)) ∧ Old w w' := by
  have hm := make_vec n (by omega) w
  have hc := fun ty => copy_nums (P := Tryd.prog) (dT := 82) (sT := 24) (ty := ty) Tryd.underlying82 Tryd.sizeU32 (k := .u32) n xs hx a ca (nums .u32 (List.replicate n 0)) (by simp [nums]) w rx
  have HX : Hid (xs.length = n) := hx
  have HY : Hid (ys.length = n) := hy
  clear hx hy
  go_enter Tryd.func49, Tryd.ntmps49
  go_wp2_with fail
  refine (vadd_any w.heap.size n 41 xs ys b cb _ (by omega) HX.out HY.out (Row.new w _ _) (ry.mono (Old.of_alloc _ _)) ?_).mono ?_
  · intro x hp hx
    have := ry.lt hx (by rw [nums_length, HY.out]; exact hp)
    omega
  rintro e w' ⟨rfl, row, gr⟩
  go_wp2
  go_ret2
  exact ⟨_, Nat.le_refl _, rfl, row, (Old.of_alloc _ _).grown gr (Nat.le_refl _)⟩

set_option maxHeartbeats 1000000 in
theorem both_takeR (n : Nat) (xs ys : List Nat) (a b : Option Addr) (ca cb : Nat) (w : World) (hn : n ≤ 35184372088832)
    (hx : xs.length = n) (hy : ys.length = n) (hb : ∀ y ∈ ys, y < 4294967296) (rx : Rd w a (nums .u32 xs)) (ry : Rd w b (nums .u32 ys)) :
    Calls Tryd.prog 49 #[.func (.func 51) #[] #[], .slice a n ca, .slice b n cb] w fun e w' =>
      ∃ g, w.heap.size ≤ g ∧ e = .returned (.tuple #[.slice (some ⟨g, 0, none⟩) n n, .int .i64 0]) ∧ Row w' g 41 (nums .u32 (List.zipWith sub32 xs ys)) ∧ Old w w' := by
  have hm := make_vec n (by omega) w
  have hc := fun ty => copy_nums (P := Tryd.prog) (dT := 82) (sT := 24) (ty := ty) Tryd.underlying82 Tryd.sizeU32 (k := .u32) n xs hx a ca (nums .u32 (List.replicate n 0)) (by simp [nums]) w rx
  have HX : Hid (xs.length = n) := hx
  have HY : Hid (ys.length = n) := hy
  have HB : Hid (∀ y ∈ ys, y < 4294967296) := hb
  clear hx hy hb
  go_enter Tryd.func49, Tryd.ntmps49
  go_wp2_with fail
  refine (vtake_any w.heap.size n 41 xs ys b cb _ (by omega) HX.out HY.out HB.out (Row.new w _ _) (ry.mono (Old.of_alloc _ _)) ?_).mono ?_
  · intro x hp hx
    have := ry.lt hx (by rw [nums_length, HY.out]; exact hp)
    omega
  rintro e w' ⟨rfl, row, gr⟩
  go_wp2
  go_ret2
  exact ⟨_, Nat.le_refl _, rfl, row, (Old.of_alloc _ _).grown gr (Nat.le_refl _)⟩

set_option maxHeartbeats 1000000 in
theorem Add_row (n : Nat) (xs ys : List Nat) (a b : Option Addr) (ca cb : Nat) (w : World) (hn : n ≤ 35184372088832)
    (hx : xs.length = n) (hy : ys.length = n) (rx : Rd w a (nums .u32 xs)) (ry : Rd w b (nums .u32 ys)) :
    Calls Tryd.prog 42 #[.slice a n ca, .slice b n cb] w fun e w' =>
      ∃ g, w.heap.size ≤ g ∧ e = .returned (.tuple #[.slice (some ⟨g, 0, none⟩) n n, .int .i64 0]) ∧ Row w' g 41 (nums .u32 (List.zipWith add32 xs ys)) ∧ Old w w' := by
  have HH := hide <| both_addR n xs ys a b ca cb w hn hx hy rx ry
  clear hx hy
  go_enter Tryd.func42, Tryd.ntmps42
  go_wp2_with fail
  refine (HH.out).mono ?_
  rintro e w' ⟨g, g0, rfl, rd, old⟩
  go_wp2
  go_ret2
  exact ⟨_, g0, rfl, rd, old⟩

set_option maxHeartbeats 1000000 in
theorem Sub_row (n : Nat) (xs ys : List Nat) (a b : Option Addr) (ca cb : Nat) (w : World) (hn : n ≤ 35184372088832)
    (hx : xs.length = n) (hy : ys.length = n) (hb : ∀ y ∈ ys, y < 4294967296) (rx : Rd w a (nums .u32 xs)) (ry : Rd w b (nums .u32 ys)) :
    Calls Tryd.prog 43 #[.slice a n ca, .slice b n cb] w fun e w' =>
      ∃ g, w.heap.size ≤ g ∧ e = .returned (.tuple #[.slice (some ⟨g, 0, none⟩) n n, .int .i64 0]) ∧ Row w' g 41 (nums .u32 (List.zipWith sub32 xs ys)) ∧ Old w w' := by
  have HH := hide <| both_takeR n xs ys a b ca cb w hn hx hy hb rx ry
  clear hx hy hb
  go_enter Tryd.func43, Tryd.ntmps43
  go_wp2_with fail
  refine (HH.out).mono ?_
  rintro e w' ⟨g, g0, rfl, rd, old⟩
  go_wp2
  go_ret2
  exact ⟨_, g0, rfl, rd, old⟩

/-- A cover in a box of the call's own, its numbers in a row of the call's own. -/
structure Cov (w0 : World) (c n : Nat) (vs : List Nat) (wr : World) : Prop where
  old : Old w0 wr
  ge : w0.heap.size ≤ c
  box : ∃ g, w0.heap.size ≤ g ∧ Row wr c 59 [.slice (some ⟨g, 0, none⟩) n n] ∧ Row wr g 41 (nums .u32 vs)
theorem Cov.mono {w0 wr w' : World} {c n : Nat} {vs : List Nat} (h : Cov w0 c n vs wr) (o : Old wr w') : Cov w0 c n vs w' := by
  obtain ⟨g, h1, h2, h3⟩ := h.box
  exact ⟨h.old.trans o, h.ge, g, h1, h2.mono o, h3.mono o⟩
/-- The new row in the box. -/
theorem Cov.put {w0 wr w' : World} {c n g : Nat} {vs us : List Nat} (h : Cov w0 c n vs wr) (o : Old wr w') (hg : wr.heap.size ≤ g) (R : Row w' g 41 (nums .u32 us)) : Cov w0 c n us (w'.setCell ⟨c, 0, none⟩ (.slice (some ⟨g, 0, none⟩) n n)) := by
  obtain ⟨g1, h1, h2, h3⟩ := h.box
  have lc := h2.lt
  exact ⟨(h.old.trans o).grown (grown_set _ _ _ _) h.ge, h.ge, g, Nat.le_trans h.old.size hg, (h2.mono o).set 0 _, R.grown (grown_set _ _ _ _) (by omega)⟩

set_option maxHeartbeats 1000000 in
theorem coverAdd_any {w0 : World} {c n : Nat} (xs ys : List Nat) (b : Option Addr) (cb : Nat) (w : World) (hn : n ≤ 35184372088832) (hx : xs.length = n) (hy : ys.length = n) (C : Cov w0 c n xs w) (ry : Rd w b (nums .u32 ys)) :
    Calls Tryd.prog 29 #[.pointer (some ⟨c, 0, none⟩), .slice b n cb] w fun e w' => e = .returned (.tuple #[]) ∧ Cov w0 c n (List.zipWith add32 xs ys) w' := by
  obtain ⟨g, g0, R1, R2⟩ := C.box
  have c0 := R1.cell (i := 0) rfl
  have K := hide (Add_row n xs ys (some ⟨g, 0, none⟩) b n cb w hn hx hy R2.rd ry)
  have HC := hide C
  have HR := hide R1
  clear hx hy C ry R1 R2
  go_enter Tryd.func29, Tryd.ntmps29
  go_wp2_with fail
  refine (K.out).mono ?_
  rintro e w1 ⟨g1, g10, rfl, r1, o1⟩
  have f1 := (HR.out.mono o1).free 0
  have c1 := (HR.out.mono o1).cell (i := 0) rfl
  have P := hide (HC.out.put o1 g10 r1)
  go_wp2_with fail
  go_end0
  exact ⟨rfl, P.out⟩
set_option maxHeartbeats 1000000 in
theorem coverTake_any {w0 : World} {c n : Nat} (xs ys : List Nat) (b : Option Addr) (cb : Nat) (w : World) (hn : n ≤ 35184372088832) (hx : xs.length = n) (hy : ys.length = n) (hb : ∀ y ∈ ys, y < 4294967296) (C : Cov w0 c n xs w) (ry : Rd w b (nums .u32 ys)) :
    Calls Tryd.prog 31 #[.pointer (some ⟨c, 0, none⟩), .slice b n cb] w fun e w' => e = .returned (.tuple #[]) ∧ Cov w0 c n (List.zipWith sub32 xs ys) w' := by
  obtain ⟨g, g0, R1, R2⟩ := C.box
  have c0 := R1.cell (i := 0) rfl
  have K := hide (Sub_row n xs ys (some ⟨g, 0, none⟩) b n cb w hn hx hy hb R2.rd ry)
  have HC := hide C
  have HR := hide R1
  clear hx hy hb C ry R1 R2
  go_enter Tryd.func31, Tryd.ntmps31
  go_wp2_with fail
  refine (K.out).mono ?_
  rintro e w1 ⟨g1, g10, rfl, r1, o1⟩
  have f1 := (HR.out.mono o1).free 0
  have c1 := (HR.out.mono o1).cell (i := 0) rfl
  have P := hide (HC.out.put o1 g10 r1)
  go_wp2_with fail
  go_end0
  exact ⟨rfl, P.out⟩

set_option maxRecDepth 100000 in
set_option maxHeartbeats 4000000 in
theorem maskRise_any (l : List Crd) (a : Option Addr) (n cap : Nat) (hl : l.length = n) (hn : n ≤ 9223372036854775807) (w : World) (rd : CrdIn w a l) :
    Calls Tryd.prog 28 #[.slice a n cap] w fun e w' => e = .returned (.bool (riseB l)) ∧ Old w w' := by
  have HL := hide hl
  have HN := hide hn
  have RD := hide rd
  clear hl hn rd
  go_enter Tryd.func28, Tryd.ntmps28
  go_wp2_with fail
  go_loopw [3, 8] (fun vl vi wr => ∃ (i : Nat) (z : Int), i ≤ n ∧ vi = .int .i64 (i : Int) ∧ vl = .int .i64 z ∧ Hid (z = if i = 0 then 0 else whoAt l (i - 1)) ∧ Hid (riseTo l i = true) ∧ Hid (Old w wr)) (fun _ vi _ => n - (intOf vi).toNat)
  case atStart => exact ⟨0, 0, Nat.zero_le _, rfl, rfl, rfl, rfl, Old.refl _⟩
  case round =>
    obtain ⟨i, z, hi, rfl, rfl, HZ, HT, O⟩ := hrel
    by_cases hlt : i < n
    · have t1 : decide ((i : Int) < (n : Int)) = true := by simp; omega
      have q0 : (0 : Int) ≤ i := by omega
      have q1 : (i : Int) < n := by omega
      have iw : wrap64 ((i : Int) + 1) = ((i + 1 : Nat) : Int) := by have := HN.out; unfold wrap64; omega
      have hil : i < l.length := by rw [HL.out]; exact hlt
      obtain ⟨b, off, rfl, cx, cy, cz⟩ := (RD.out.mono O.out) i l[i] (by simp [hil])
      have NX := hide (riseTo_next l i)
      rw [HT.out, Bool.true_and, whoAt_eq (x := l[i]) (by simp [hil])] at NX
      have BAD : Hid (riseTo l (i + 1) = false → riseB l = false) := fun h => riseTo_bad h l.length (by omega)
      have WA : Hid (whoAt l (i + 1 - 1) = l[i].who) := by show _ = _; rw [Nat.add_sub_cancel]; exact whoAt_eq (by simp [hil])
      have Z1 : Hid (i = 0 → z = 0) := fun h => by have := HZ.out; rwa [if_pos h] at this
      have Z2 : Hid (i ≠ 0 → z = whoAt l (i - 1)) := fun h => by have := HZ.out; rwa [if_neg h] at this
      have O1 := hide (O.out.alloc (.cells #[.int .i64 l[i].who, .int .u64 (l[i].lock : Nat), .int .u64 (l[i].key : Nat)] 49))
      have ZP : Hid (i ≠ 0 → 1 ≤ z) := fun h => by
        have e := Z2.out h
        have := HT.out
        obtain ⟨j, rfl⟩ : ∃ j, i = j + 1 := ⟨i - 1, by omega⟩
        rw [riseTo_next] at this
        simp only [Bool.and_eq_true, decide_eq_true_eq] at this
        rw [e]
        exact this.2.1.1
      generalize l[i] = cc at *
      obtain ⟨x, y, k⟩ := cc
      dsimp only at *
      by_cases h1 : x ≤ z
      · have t2 : decide (x ≤ z) = true := decide_eq_true h1
        have E : Hid (riseB l = false) := BAD.out (by
          rw [NX.out]
          by_cases h0 : i = 0
          · rw [decide_eq_false (p := 1 ≤ x) (by have := Z1.out h0; omega)]; rfl
          · rw [decide_eq_false (p := whoAt l (i - 1) < x) (by have := Z2.out h0; omega), decide_eq_false (p := i = 0) h0, Bool.or_false, Bool.and_false])
        clear NX BAD h1 HZ Z1 Z2 WA ZP
        go_wp2_with fail
        go_ret
        exact ⟨by rw [E.out]; rfl, O1.out⟩
      · have t2 : decide (x ≤ z) = false := decide_eq_false h1
        by_cases h2 : 64 < x
        · have t3 : decide (64 < x) = true := decide_eq_true h2
          have E : Hid (riseB l = false) := BAD.out (by rw [NX.out, decide_eq_false (p := x ≤ 64) (by omega), Bool.and_false, Bool.false_and])
          clear NX BAD h1 HZ Z1 Z2 WA h2 ZP
          go_wp2_with fail
          go_ret
          exact ⟨by rw [E.out]; rfl, O1.out⟩
        · have t3 : decide (64 < x) = false := decide_eq_false h2
          have E : Hid (riseTo l (i + 1) = true) := by
            show _ = _
            rw [NX.out]
            by_cases h0 : i = 0
            · rw [decide_eq_true (p := 1 ≤ x) (by have := Z1.out h0; omega), decide_eq_true (p := x ≤ 64) (by omega), decide_eq_true h0]; rfl
            · have e := Z2.out h0
              have e1 := ZP.out h0
              rw [decide_eq_true (p := 1 ≤ x) (by omega), decide_eq_true (p := x ≤ 64) (by omega), decide_eq_true (p := whoAt l (i - 1) < x) (by omega), Bool.or_true]; rfl
          have HZ2 : Hid (x = if i + 1 = 0 then 0 else whoAt l (i + 1 - 1)) := by show _ = _; rw [if_neg (by omega)]; exact WA.out.symm
          clear NX BAD h1 HZ Z1 Z2 WA h2 ZP
          go_wp2_with fail
          try rw [iw]
          go_roundw
          case rel => exact ⟨i + 1, x, by omega, by simp, rfl, HZ2, E, O1⟩
          case measure => simp [intOf]; omega
    · have e : i = n := by omega
      have E : Hid (riseB l = true) := by show _ = _; unfold riseB; rw [HL.out, ← e]; exact HT.out
      have t1 : decide ((i : Int) < (n : Int)) = false := by simp; omega
      clear e HZ
      go_wp2_with fail
      go_ret
      exact ⟨by rw [E.out]; rfl, O.out⟩
end Go.Proofs.YtjbpnhibgafdmaaDoor
