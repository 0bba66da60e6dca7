/-
  MgMask: 4 parts, one behind the other; what each proves, and under which conditions, its own heading says.
-/
import Derived.Test.YtjbpnhibgafdmaaDoorMaskC
import Derived.Test.YtjbpnhibgafdmaaDoorRing
import Derived.Test.YtjbpnhibgafdmaaDoorBxs

/-
  The landed mask, first part: isDonor, rise, Own, Pair, and vectors added and taken away in rows of the call's own.
-/
namespace Go.Proofs.YtjbpnhibgafdmaaDoor
open Go.RowKit Cha M Vec Sl Mk
set_option linter.unusedVariables false

theorem maskDonor_any (z : Int) (w : World) :
    Calls Tryd.prog 27 #[.int .i64 z] w fun e w' => e = .returned (.bool (decide (1 ≤ z) && decide (z ≤ 64))) ∧ w' = w := by
  by_cases h1 : 1 ≤ z
  · have d1 : decide (1 ≤ z) = true := decide_eq_true h1
    rw [d1, Bool.true_and]
    clear h1
    go_enter Tryd.func27, Tryd.ntmps27
    go_wp2
    go_ret
    exact ⟨rfl, rfl⟩
  · have d1 : decide (1 ≤ z) = false := decide_eq_false h1
    rw [d1, Bool.false_and]
    clear h1
    go_enter Tryd.func27, Tryd.ntmps27
    go_wp2
    go_ret
    exact ⟨rfl, rfl⟩

set_option maxHeartbeats 1000000 in
theorem maskOwn_any (s : List Nat) (hl : s.length = 32) (hb : ∀ x ∈ s, x < 256) (n : Int) (w : World) (q : QTab w) :
    Calls Tryd.prog 11 #[.agg (nums .u8 s).toArray, .int .i64 n] w fun e w' =>
      ∃ g, w.heap.size ≤ g ∧ e = .returned (.slice (some ⟨g, 0, none⟩) (kept n 256) (kept n 256)) ∧ Row w' g 41 (nums .u32 (ownV s (kept n 256))) ∧ Old w w' := by
  have C := hide (fun (w' : World) (q : QTab w') => Vector_any s hl hb 4 (by omega) n w' q)
  have R0 : Hid (Row (w.alloc (.cells (nums .u8 s).toArray 32)) w.heap.size 32 (nums .u8 s)) := Row.new w _ _
  have O0 := Old.of_alloc w (.cells (nums .u8 s).toArray 32)
  have HQ := hide (q.mono O0)
  have HI : Hid ((Tryd.prog.info? 32).map (·.size) = some (nums .u8 s).length) := info_k hl
  unfold ownV
  clear hl hb q
  generalize kept n 256 = m at *
  go_enter Tryd.func11, Tryd.ntmps11
  go_wp2_with (refine wp_load_whole rfl 32 _ rfl w.heap.size rfl R0.out Tryd.underlying32 rfl HI.out ?_)
  refine (C.out _ HQ.out).mono ?_
  rintro e w1 ⟨g, g0, rfl, g1, o1⟩
  go_wp2
  go_ret
  exact ⟨g, Nat.le_trans O0.size g0, rfl, g1, O0.trans o1⟩

set_option maxHeartbeats 1000000 in
theorem maskPair_any (s p : Nat) (hp : p < 18446744073709551616) (n : Int) (w : World) (q : QTab w) :
    Calls Tryd.prog 8 #[.int .u64 s, .int .u64 p, .int .i64 n] w (MR w (agE s p) (kept n 256) (pairV (powP p s) (kept n 256))) := by
  have HQ := hide q
  have CA := hide (agree_any s p hp)
  have C1 := hide (fun (w' : World) (q : QTab w') => Derive_any (agN s p) (Nat.lt_trans (agN_lt s p) (by decide)) 2 (by omega) w' q)
  have C2 := hide (fun (w' : World) (q : QTab w') => Vector_any (derive (agN s p) 2) (derive_length _ _) (derive_lt _ _) 3 (by omega) n w' q)
  have EN : Hid (agE s p = 0 → agN s p = powP p s) := fun h => by unfold agN; rw [if_pos h]
  unfold pairV
  clear hp q
  revert CA C1 C2 EN
  generalize agN s p = k
  generalize agE s p = E
  generalize powP p s = k'
  generalize kept n 256 = m
  intro CA C1 C2 EN
  by_cases h0 : E = 0
  · subst h0
    obtain rfl : k = k' := EN.out rfl
    clear EN
    go_enter Tryd.func8, Tryd.ntmps8
    go_wp2_with fail
    refine (CA.out _).mono ?_
    rintro e w1 ⟨rfl, rfl⟩
    go_wp2_with fail
    refine (C1.out _ HQ.out).mono ?_
    rintro e w2 ⟨rfl, o1⟩
    go_wp2_with fail
    refine (C2.out _ (HQ.out.mono o1)).mono ?_
    rintro e w3 ⟨g, g0, rfl, g1, o2⟩
    go_wp2
    go_ret2
    exact ⟨fun h => absurd rfl h, fun _ => ⟨g, Nat.le_trans o1.size g0, rfl, g1⟩, o1.trans o2⟩
  · have t1 : ((E : Int) != 0) = true := by rw [bne_iff_ne]; omega
    have H0 := hide h0
    clear h0 EN
    go_enter Tryd.func8, Tryd.ntmps8
    go_wp2_with fail
    refine (CA.out _).mono ?_
    rintro e w1 ⟨rfl, rfl⟩
    go_wp2
    go_ret2
    exact ⟨fun _ => rfl, fun h => absurd h H0.out, Old.refl _⟩
end Go.Proofs.YtjbpnhibgafdmaaDoor

/-
  The landed mask, second part: a vector with masks laid over it (cover), and whose Who rise.
-/
namespace Go.Proofs.YtjbpnhibgafdmaaDoor
open Go.RowKit Cha M Vec Sl Mk
set_option linter.unusedVariables false

set_option maxHeartbeats 1000000 in
theorem both_addR (n : Nat) (xs ys : List Nat) (a b : Option Addr) (ca cb : Nat) (w : World) (hn : n ≤ 35184372088832)
    (hx : xs.length = n) (hy : ys.length = n) (rx : Rd w a (nums .u32 xs)) (ry : Rd w b (nums .u32 ys)) :
    Calls Tryd.prog 49 #[.func (.func 50) #[] #[], .slice a n ca, .slice b n cb] w fun e w' =>
      ∃ g, w.heap.size ≤ g ∧ e = .returned (.tuple #[.slice (some ⟨g, 0, none⟩) n n, .int .i64 0]) ∧ Row w' g 41 (nums .u32 (List.zipWith add32 xs ys)) ∧ Old w w' := by
  have hm := make_vec n (by omega) w
  have hc := fun ty => copy_nums (P := Tryd.prog) (dT := 82) (sT := 24) (ty := ty) Tryd.underlying82 Tryd.sizeU32 (k := .u32) n xs hx a ca (nums .u32 (List.replicate n 0)) (by simp [nums]) w rx
  have HX : Hid (xs.length = n) := hx
  have HY : Hid (ys.length = n) := hy
  clear hx hy
  go_enter Tryd.func49, Tryd.ntmps49
  go_wp2_with fail
  refine (vadd_any w.heap.size n 41 xs ys b cb _ (by omega) HX.out HY.out (Row.new w _ _) (ry.mono (Old.of_alloc _ _)) ?_).mono ?_
  · intro x hp hx
    have := ry.lt hx (by rw [nums_length, HY.out]; exact hp)
    omega
  rintro e w' ⟨rfl, row, gr⟩
  go_wp2
  go_ret2
  exact ⟨_, Nat.le_refl _, rfl, row, (Old.of_alloc _ _).grown gr (Nat.le_refl _)⟩

set_option maxHeartbeats 1000000 in
theorem both_takeR (n : Nat) (xs ys : List Nat) (a b : Option Addr) (ca cb : Nat) (w : World) (hn : n ≤ 35184372088832)
    (hx : xs.length = n) (hy : ys.length = n) (hb : ∀ y ∈ ys, y < 4294967296) (rx : Rd w a (nums .u32 xs)) (ry : Rd w b (nums .u32 ys)) :
    Calls Tryd.prog 49 #[.func (.func 51) #[] #[], .slice a n ca, .slice b n cb] w fun e w' =>
      ∃ g, w.heap.size ≤ g ∧ e = .returned (.tuple #[.slice (some ⟨g, 0, none⟩) n n, .int .i64 0]) ∧ Row w' g 41 (nums .u32 (List.zipWith sub32 xs ys)) ∧ Old w w' := by
  have hm := make_vec n (by omega) w
  have hc := fun ty => copy_nums (P := Tryd.prog) (dT := 82) (sT := 24) (ty := ty) Tryd.underlying82 Tryd.sizeU32 (k := .u32) n xs hx a ca (nums .u32 (List.replicate n 0)) (by simp [nums]) w rx
  have HX : Hid (xs.length = n) := hx
  have HY : Hid (ys.length = n) := hy
  have HB : Hid (∀ y ∈ ys, y < 4294967296) := hb
  clear hx hy hb
  go_enter Tryd.func49, Tryd.ntmps49
  go_wp2_with fail
  refine (vtake_any w.heap.size n 41 xs ys b cb _ (by omega) HX.out HY.out HB.out (Row.new w _ _) (ry.mono (Old.of_alloc _ _)) ?_).mono ?_
  · intro x hp hx
    have := ry.lt hx (by rw [nums_length, HY.out]; exact hp)
    omega
  rintro e w' ⟨rfl, row, gr⟩
  go_wp2
  go_ret2
  exact ⟨_, Nat.le_refl _, rfl, row, (Old.of_alloc _ _).grown gr (Nat.le_refl _)⟩

set_option maxHeartbeats 1000000 in
theorem Add_row (n : Nat) (xs ys : List Nat) (a b : Option Addr) (ca cb : Nat) (w : World) (hn : n ≤ 35184372088832)
    (hx : xs.length = n) (hy : ys.length = n) (rx : Rd w a (nums .u32 xs)) (ry : Rd w b (nums .u32 ys)) :
    Calls Tryd.prog 42 #[.slice a n ca, .slice b n cb] w fun e w' =>
      ∃ g, w.heap.size ≤ g ∧ e = .returned (.tuple #[.slice (some ⟨g, 0, none⟩) n n, .int .i64 0]) ∧ Row w' g 41 (nums .u32 (List.zipWith add32 xs ys)) ∧ Old w w' := by
  have HH := hide <| both_addR n xs ys a b ca cb w hn hx hy rx ry
  clear hx hy
  go_enter Tryd.func42, Tryd.ntmps42
  go_wp2_with fail
  refine (HH.out).mono ?_
  rintro e w' ⟨g, g0, rfl, rd, old⟩
  go_wp2
  go_ret2
  exact ⟨_, g0, rfl, rd, old⟩

set_option maxHeartbeats 1000000 in
theorem Sub_row (n : Nat) (xs ys : List Nat) (a b : Option Addr) (ca cb : Nat) (w : World) (hn : n ≤ 35184372088832)
    (hx : xs.length = n) (hy : ys.length = n) (hb : ∀ y ∈ ys, y < 4294967296) (rx : Rd w a (nums .u32 xs)) (ry : Rd w b (nums .u32 ys)) :
    Calls Tryd.prog 43 #[.slice a n ca, .slice b n cb] w fun e w' =>
      ∃ g, w.heap.size ≤ g ∧ e = .returned (.tuple #[.slice (some ⟨g, 0, none⟩) n n, .int .i64 0]) ∧ Row w' g 41 (nums .u32 (List.zipWith sub32 xs ys)) ∧ Old w w' := by
  have HH := hide <| both_takeR n xs ys a b ca cb w hn hx hy hb rx ry
  clear hx hy hb
  go_enter Tryd.func43, Tryd.ntmps43
  go_wp2_with fail
  refine (HH.out).mono ?_
  rintro e w' ⟨g, g0, rfl, rd, old⟩
  go_wp2
  go_ret2
  exact ⟨_, g0, rfl, rd, old⟩

/-- A cover in a box of the call's own, its numbers in a row of the call's own. -/
structure Cov (w0 : World) (c n : Nat) (vs : List Nat) (wr : World) : Prop where
  old : Old w0 wr
  ge : w0.heap.size ≤ c
  box : ∃ g, w0.heap.size ≤ g ∧ Row wr c 59 [.slice (some ⟨g, 0, none⟩) n n] ∧ Row wr g 41 (nums .u32 vs)
theorem Cov.mono {w0 wr w' : World} {c n : Nat} {vs : List Nat} (h : Cov w0 c n vs wr) (o : Old wr w') : Cov w0 c n vs w' := by
  obtain ⟨g, h1, h2, h3⟩ := h.box
  exact ⟨h.old.trans o, h.ge, g, h1, h2.mono o, h3.mono o⟩
/-- The new row in the box. -/
theorem Cov.put {w0 wr w' : World} {c n g : Nat} {vs us : List Nat} (h : Cov w0 c n vs wr) (o : Old wr w') (hg : wr.heap.size ≤ g) (R : Row w' g 41 (nums .u32 us)) : Cov w0 c n us (w'.setCell ⟨c, 0, none⟩ (.slice (some ⟨g, 0, none⟩) n n)) := by
  obtain ⟨g1, h1, h2, h3⟩ := h.box
  have lc := h2.lt
  exact ⟨(h.old.trans o).grown (grown_set _ _ _ _) h.ge, h.ge, g, Nat.le_trans h.old.size hg, (h2.mono o).set 0 _, R.grown (grown_set _ _ _ _) (by omega)⟩

set_option maxHeartbeats 1000000 in
theorem coverAdd_any {w0 : World} {c n : Nat} (xs ys : List Nat) (b : Option Addr) (cb : Nat) (w : World) (hn : n ≤ 35184372088832) (hx : xs.length = n) (hy : ys.length = n) (C : Cov w0 c n xs w) (ry : Rd w b (nums .u32 ys)) :
    Calls Tryd.prog 29 #[.pointer (some ⟨c, 0, none⟩), .slice b n cb] w fun e w' => e = .returned (.tuple #[]) ∧ Cov w0 c n (List.zipWith add32 xs ys) w' := by
  obtain ⟨g, g0, R1, R2⟩ := C.box
  have c0 := R1.cell (i := 0) rfl
  have K := hide (Add_row n xs ys (some ⟨g, 0, none⟩) b n cb w hn hx hy R2.rd ry)
  have HC := hide C
  have HR := hide R1
  clear hx hy C ry R1 R2
  go_enter Tryd.func29, Tryd.ntmps29
  go_wp2_with fail
  refine (K.out).mono ?_
  rintro e w1 ⟨g1, g10, rfl, r1, o1⟩
  have f1 := (HR.out.mono o1).free 0
  have c1 := (HR.out.mono o1).cell (i := 0) rfl
  have P := hide (HC.out.put o1 g10 r1)
  go_wp2_with fail
  go_end0
  exact ⟨rfl, P.out⟩
set_option maxHeartbeats 1000000 in
theorem coverTake_any {w0 : World} {c n : Nat} (xs ys : List Nat) (b : Option Addr) (cb : Nat) (w : World) (hn : n ≤ 35184372088832) (hx : xs.length = n) (hy : ys.length = n) (hb : ∀ y ∈ ys, y < 4294967296) (C : Cov w0 c n xs w) (ry : Rd w b (nums .u32 ys)) :
    Calls Tryd.prog 31 #[.pointer (some ⟨c, 0, none⟩), .slice b n cb] w fun e w' => e = .returned (.tuple #[]) ∧ Cov w0 c n (List.zipWith sub32 xs ys) w' := by
  obtain ⟨g, g0, R1, R2⟩ := C.box
  have c0 := R1.cell (i := 0) rfl
  have K := hide (Sub_row n xs ys (some ⟨g, 0, none⟩) b n cb w hn hx hy hb R2.rd ry)
  have HC := hide C
  have HR := hide R1
  clear hx hy hb C ry R1 R2
  go_enter Tryd.func31, Tryd.ntmps31
  go_wp2_with fail
  refine (K.out).mono ?_
  rintro e w1 ⟨g1, g10, rfl, r1, o1⟩
  have f1 := (HR.out.mono o1).free 0
  have c1 := (HR.out.mono o1).cell (i := 0) rfl
  have P := hide (HC.out.put o1 g10 r1)
  go_wp2_with fail
  go_end0
  exact ⟨rfl, P.out⟩

set_option maxRecDepth 100000 in
set_option maxHeartbeats 4000000 in
theorem maskRise_any (l : List Crd) (a : Option Addr) (n cap : Nat) (hl : l.length = n) (hn : n ≤ 9223372036854775807) (w : World) (rd : CrdIn w a l) :
    Calls Tryd.prog 28 #[.slice a n cap] w fun e w' => e = .returned (.bool (riseB l)) ∧ Old w w' := by
  have HL := hide hl
  have HN := hide hn
  have RD := hide rd
  clear hl hn rd
  go_enter Tryd.func28, Tryd.ntmps28
  go_wp2_with fail
  go_loopw [3, 8] (fun vl vi wr => ∃ (i : Nat) (z : Int), i ≤ n ∧ vi = .int .i64 (i : Int) ∧ vl = .int .i64 z ∧ Hid (z = if i = 0 then 0 else whoAt l (i - 1)) ∧ Hid (riseTo l i = true) ∧ Hid (Old w wr)) (fun _ vi _ => n - (intOf vi).toNat)
  case atStart => exact ⟨0, 0, Nat.zero_le _, rfl, rfl, rfl, rfl, Old.refl _⟩
  case round =>
    obtain ⟨i, z, hi, rfl, rfl, HZ, HT, O⟩ := hrel
    by_cases hlt : i < n
    · have t1 : decide ((i : Int) < (n : Int)) = true := by simp; omega
      have q0 : (0 : Int) ≤ i := by omega
      have q1 : (i : Int) < n := by omega
      have iw : wrap64 ((i : Int) + 1) = ((i + 1 : Nat) : Int) := by have := HN.out; unfold wrap64; omega
      have hil : i < l.length := by rw [HL.out]; exact hlt
      obtain ⟨b, off, rfl, cx, cy, cz⟩ := (RD.out.mono O.out) i l[i] (by simp [hil])
      have NX := hide (riseTo_next l i)
      rw [HT.out, Bool.true_and, whoAt_eq (x := l[i]) (by simp [hil])] at NX
      have BAD : Hid (riseTo l (i + 1) = false → riseB l = false) := fun h => riseTo_bad h l.length (by omega)
      have WA : Hid (whoAt l (i + 1 - 1) = l[i].who) := by show _ = _; rw [Nat.add_sub_cancel]; exact whoAt_eq (by simp [hil])
      have Z1 : Hid (i = 0 → z = 0) := fun h => by have := HZ.out; rwa [if_pos h] at this
      have Z2 : Hid (i ≠ 0 → z = whoAt l (i - 1)) := fun h => by have := HZ.out; rwa [if_neg h] at this
      have O1 := hide (O.out.alloc (.cells #[.int .i64 l[i].who, .int .u64 (l[i].lock : Nat), .int .u64 (l[i].key : Nat)] 49))
      have ZP : Hid (i ≠ 0 → 1 ≤ z) := fun h => by
        have e := Z2.out h
        have := HT.out
        obtain ⟨j, rfl⟩ : ∃ j, i = j + 1 := ⟨i - 1, by omega⟩
        rw [riseTo_next] at this
        simp only [Bool.and_eq_true, decide_eq_true_eq] at this
        rw [e]
        exact this.2.1.1
      generalize l[i] = cc at *
      obtain ⟨x, y, k⟩ := cc
      dsimp only at *
      by_cases h1 : x ≤ z
      · have t2 : decide (x ≤ z) = true := decide_eq_true h1
        have E : Hid (riseB l = false) := BAD.out (by
          rw [NX.out]
          by_cases h0 : i = 0
          · rw [decide_eq_false (p := 1 ≤ x) (by have := Z1.out h0; omega)]; rfl
          · rw [decide_eq_false (p := whoAt l (i - 1) < x) (by have := Z2.out h0; omega), decide_eq_false (p := i = 0) h0, Bool.or_false, Bool.and_false])
        clear NX BAD h1 HZ Z1 Z2 WA ZP
        go_wp2_with fail
        go_ret
        exact ⟨by rw [E.out]; rfl, O1.out⟩
      · have t2 : decide (x ≤ z) = false := decide_eq_false h1
        by_cases h2 : 64 < x
        · have t3 : decide (64 < x) = true := decide_eq_true h2
          have E : Hid (riseB l = false) := BAD.out (by rw [NX.out, decide_eq_false (p := x ≤ 64) (by omega), Bool.and_false, Bool.false_and])
          clear NX BAD h1 HZ Z1 Z2 WA h2 ZP
          go_wp2_with fail
          go_ret
          exact ⟨by rw [E.out]; rfl, O1.out⟩
        · have t3 : decide (64 < x) = false := decide_eq_false h2
          have E : Hid (riseTo l (i + 1) = true) := by
            show _ = _
            rw [NX.out]
            by_cases h0 : i = 0
            · rw [decide_eq_true (p := 1 ≤ x) (by have := Z1.out h0; omega), decide_eq_true (p := x ≤ 64) (by omega), decide_eq_true h0]; rfl
            · have e := Z2.out h0
              have e1 := ZP.out h0
              rw [decide_eq_true (p := 1 ≤ x) (by omega), decide_eq_true (p := x ≤ 64) (by omega), decide_eq_true (p := whoAt l (i - 1) < x) (by omega), Bool.or_true]; rfl
          have HZ2 : Hid (x = if i + 1 = 0 then 0 else whoAt l (i + 1 - 1)) := by show _ = _; rw [if_neg (by omega)]; exact WA.out.symm
          clear NX BAD h1 HZ Z1 Z2 WA h2 ZP
          go_wp2_with fail
          try rw [iw]
          go_roundw
          case rel => exact ⟨i + 1, x, by omega, by simp, rfl, HZ2, E, O1⟩
          case measure => simp [intOf]; omega
    · have e : i = n := by omega
      have E : Hid (riseB l = true) := by show _ = _; unfold riseB; rw [HL.out, ← e]; exact HT.out
      have t1 : decide ((i : Int) < (n : Int)) = false := by simp; omega
      clear e HZ
      go_wp2_with fail
      go_ret
      exact ⟨by rw [E.out]; rfl, O.out⟩
end Go.Proofs.YtjbpnhibgafdmaaDoor

/-
  The landed mask, third part: the masks of two laid over a vector one by one (eachPair).
-/
namespace Go.Proofs.YtjbpnhibgafdmaaDoor
open Go.RowKit Cha M Vec Sl Mk
set_option linter.unusedVariables false

namespace Mk
/-- Masks laid over acc. -/
def mskO (who : Int) (s n : Nat) (turned : Bool) (acc : List Nat) (l : List Crd) : List Nat := l.foldl (mskS who s n turned) acc
theorem mskO_length {who : Int} {s n : Nat} {turned : Bool} {acc : List Nat} {l : List Crd} (h : acc.length = n) : (mskO who s n turned acc l).length = n := foldl_length _ _ _ _ _ _ h
theorem mskO_next (who : Int) (s n : Nat) (turned : Bool) (acc : List Nat) {l : List Crd} {k : Nat} {c : Crd} (h : l[k]? = some c) : mskO who s n turned acc (l.take (k + 1)) = mskS who s n turned (mskO who s n turned acc (l.take k)) c := by
  unfold mskO
  rw [List.take_add_one, h, List.foldl_append]
  rfl
theorem zip_over (f : Nat → Nat → Nat) (h : ∀ a m p, p < 4294967296 → f (add32 a m) p = add32 a (f m p)) : ∀ (bs ms ps : List Nat), (∀ p ∈ ps, p < 4294967296) → List.zipWith f (List.zipWith add32 bs ms) ps = List.zipWith add32 bs (List.zipWith f ms ps)
  | [], _, _, _ => by simp
  | _ :: _, [], _, _ => by simp
  | _ :: _, _ :: _, [], _ => by simp
  | a :: bs, m :: ms, p :: ps, hp => by
    simp only [List.zipWith_cons_cons]
    rw [h a m p (hp p (by simp)), zip_over f h bs ms ps (fun q hq => hp q (by simp [hq]))]
theorem sgn_over (who x : Int) (turned : Bool) (a m p : Nat) (hp : p < 4294967296) : sgn who x turned (add32 a m) p = add32 a (sgn who x turned m p) := by
  unfold sgn
  split
  · unfold add32; omega
  · unfold add32 sub32; omega
theorem mskS_over (who : Int) (s n : Nat) (turned : Bool) (bs ms : List Nat) (c : Crd) : mskS who s n turned (List.zipWith add32 bs ms) c = List.zipWith add32 bs (mskS who s n turned ms c) := by
  unfold mskS
  split
  · rfl
  · exact zip_over _ (sgn_over who c.who turned) _ _ _ (pairV_lt _ _)
theorem mskO_over (who : Int) (s n : Nat) (turned : Bool) (bs : List Nat) : ∀ (l : List Crd) (ms : List Nat), mskO who s n turned (List.zipWith add32 bs ms) l = List.zipWith add32 bs (mskO who s n turned ms l)
  | [], _ => rfl
  | c :: r, ms => by
    show mskO who s n turned (mskS who s n turned (List.zipWith add32 bs ms) c) r = List.zipWith add32 bs (mskO who s n turned (mskS who s n turned ms c) r)
    rw [mskS_over, mskO_over who s n turned bs r]
theorem add_zeros : ∀ (bs : List Nat), (∀ x ∈ bs, x < 4294967296) → List.zipWith add32 bs (List.replicate bs.length 0) = bs
  | [], _ => rfl
  | a :: bs, h => by
    rw [List.length_cons, List.replicate_succ, List.zipWith_cons_cons, add_zeros bs (fun x hx => h x (by simp [hx]))]
    rw [show add32 a 0 = a by unfold add32; have := h a (by simp); omega]
/-- Laid over one's vector they are that of nothing, added. -/
theorem mskO_of (who : Int) (s n : Nat) (turned : Bool) (bs : List Nat) (l : List Crd) (hl : bs.length = n) (h : ∀ x ∈ bs, x < 4294967296) : mskO who s n turned bs l = List.zipWith add32 bs (mskL who s n turned l) := by
  conv => lhs; rw [← add_zeros bs h, hl]
  rw [mskO_over]
  rfl
theorem add_comm32 (xs ys : List Nat) : List.zipWith add32 xs ys = List.zipWith add32 ys xs := by
  rw [List.zipWith_comm]
  congr 1
  funext x y
  unfold add32
  rw [Nat.add_comm]
end Mk

set_option maxRecDepth 100000 in
set_option maxHeartbeats 8000000 in
theorem eachPair_add {w0 : World} {c : Nat} (who : Int) (s : Nat) (l : List Crd) (a : Option Addr) (m cap n : Nat) (turned : Bool) (hl : l.length = m) (hm : m ≤ 9223372036854775807) (hk : CrdOk l) (hn : n ≤ 256) (rd : CrdIn w0 a l) (q : QTab w0)
    (up down : Nat → Nat → Nat) (hu : ∀ x, who < x → sgn who x turned = up) (hd : ∀ x, ¬ who < x → sgn who x turned = down)
    (KA : ∀ (xs ys : List Nat) (b : Option Addr) (cb : Nat) (w : World), xs.length = n → ys.length = n → (∀ y ∈ ys, y < 4294967296) → Cov w0 c n xs w → Rd w b (nums .u32 ys) → Calls Tryd.prog 29 #[.pointer (some ⟨c, 0, none⟩), .slice b n cb] w fun e w' => e = .returned (.tuple #[]) ∧ Cov w0 c n (List.zipWith up xs ys) w')
    (KB : ∀ (xs ys : List Nat) (b : Option Addr) (cb : Nat) (w : World), xs.length = n → ys.length = n → (∀ y ∈ ys, y < 4294967296) → Cov w0 c n xs w → Rd w b (nums .u32 ys) → Calls Tryd.prog 31 #[.pointer (some ⟨c, 0, none⟩), .slice b n cb] w fun e w' => e = .returned (.tuple #[]) ∧ Cov w0 c n (List.zipWith down xs ys) w')
    (acc : List Nat) (ha : acc.length = n) (w : World) (C : Cov w0 c n acc w) :
    Calls Tryd.prog 30 #[.int .i64 who, .int .u64 s, .slice a m cap, .int .i64 n, .func (.func 29) #[.pointer (some ⟨c, 0, none⟩)] #[], .func (.func 31) #[.pointer (some ⟨c, 0, none⟩)] #[]] w fun e w' =>
      e = .returned (.int .i64 (mskE who s l : Nat)) ∧ (mskE who s l = 0 → Cov w0 c n (mskO who s n turned acc l) w') ∧ Old w0 w' := by
  have RD := hide rd
  have HL := hide hl
  have HK := hide hk
  have HM := hide hm
  have HQ := hide q
  have HU := hide hu
  have HD := hide hd
  have HA := hide KA
  have HB := hide KB
  have LA := hide ha
  have X0 : Hid (Cov w0 c n (mskO who s n turned acc (l.take 0)) w ∧ mskE who s (l.take 0) = 0) := ⟨C, rfl⟩
  have kn : Hid (kept (n : Int) 256 = n) := by show _ = _; unfold kept; omega
  clear hl hm rd hk q hu hd KA KB ha C hn
  go_enter Tryd.func30, Tryd.ntmps30
  go_wp2_with fail
  go_loopw [19] (fun vi wr => ∃ i : Nat, i ≤ m ∧ vi = .int .i64 (i : Int) ∧ Hid (Cov w0 c n (mskO who s n turned acc (l.take i)) wr ∧ mskE who s (l.take i) = 0)) (fun vi _ => m - (intOf vi).toNat)
  case atStart => exact ⟨0, Nat.zero_le _, rfl, X0⟩
  case round =>
    clear X0
    obtain ⟨i, hi, rfl, R⟩ := hrel
    by_cases him : i = m
    · subst him
      have TA : l.take i = l := List.take_of_length_le (by rw [HL.out]; exact Nat.le_refl _)
      rw [TA] at R
      have ti : decide ((i : Int) < (i : Int)) = false := by simp
      clear TA
      go_wp2
      go_ret
      rw [R.out.2]
      exact ⟨rfl, fun _ => R.out.1, R.out.1.old⟩
    · have hlt : i < m := by omega
      have hil : i < l.length := by rw [HL.out]; exact hlt
      have ti : decide ((i : Int) < (m : Int)) = true := by simp; omega
      have q0 : (0 : Int) ≤ i := by omega
      have q1 : (i : Int) < m := by omega
      have iw : wrap64 ((i : Int) + 1) = ((i + 1 : Nat) : Int) := by have := HM.out; unfold wrap64; omega
      obtain ⟨b, off, rfl, cx0, cy0, ck0⟩ := RD.out i l[i] (by simp [hil])
      have cx := R.out.1.old.cell cx0
      have cy := R.out.1.old.cell cy0
      have ck := R.out.1.old.cell ck0
      have kb := (HK.out l[i] (by simp)).2.2.2
      have NL := hide (mskO_next who s n turned acc (l := l) (k := i) (c := l[i]) (by simp [hil]))
      have NE := hide (mskE_next who s (l := l) (k := i) (c := l[i]) (by simp [hil]) R.out.2)
      have W1 := hide (Old.of_alloc wr (.cells #[.int .i64 l[i].who, .int .u64 (l[i].lock : Nat), .int .u64 (l[i].key : Nat)] 49))
      generalize l[i] = cc at *
      obtain ⟨x, y, k⟩ := cc
      dsimp only at *
      by_cases hw : x = who
      · have tw : (x == who) = true := by rw [beq_iff_eq]; exact hw
        have R2 : Hid (Cov w0 c n (mskO who s n turned acc (l.take (i + 1))) (wr.alloc (.cells #[.int .i64 x, .int .u64 (y : Nat), .int .u64 (k : Nat)] 49)) ∧ mskE who s (l.take (i + 1)) = 0) := by
          refine ⟨?_, ?_⟩
          · rw [NL.out, mskS, if_pos hw]; exact R.out.1.mono W1.out
          · rw [NE.out, if_pos hw]
        clear hw NL NE R ck0 cx0 cy0 W1
        go_wp2_with fail
        try rw [iw]
        go_roundw
        case rel => exact ⟨i + 1, by omega, by simp, R2⟩
        case measure => simp [intOf]; omega
      · have tw : (x == who) = false := by rw [beq_eq_false_iff_ne]; exact hw
        have NS : Hid (mskO who s n turned acc (l.take (i + 1)) = List.zipWith (sgn who x turned) (mskO who s n turned acc (l.take i)) (pairV (powP k s) n)) := by
          show _ = _
          rw [NL.out, mskS, if_neg hw]
        rw [if_neg hw] at NE
        have CP := hide (fun (w' : World) (q : QTab w') => maskPair_any s k kb n w' q)
        rw [kn.out] at CP
        have ML : Hid ((mskO who s n turned acc (l.take i)).length = n) := mskO_length LA.out
        have PL := hide (pairV_length (powP k s) n)
        have PB := hide (pairV_lt (powP k s) n)
        by_cases hE : agE s k = 0
        · have CQ : Hid (∀ w', QTab w' → Calls Tryd.prog 8 #[.int .u64 s, .int .u64 (k : Nat), .int .i64 n] w' fun e w'' => ∃ g, w'.heap.size ≤ g ∧ e = .returned (.tuple #[.slice (some ⟨g, 0, none⟩) n n, .int .i64 0]) ∧ Row w'' g 41 (nums .u32 (pairV (powP k s) n)) ∧ Old w' w'') := fun w' q => MR.yes (CP.out w' q) hE
          rw [hE] at NE
          generalize pairV (powP k s) n = ps at *
          generalize mskO who s n turned acc (l.take i) = ms at *
          clear hE NL kb ck0 cx0 cy0 CP hw
          go_wp2_with fail
          refine (CQ.out _ (HQ.out.mono (R.out.1.old.trans W1.out))).mono ?_
          rintro e w3 ⟨gm, gm0, rfl, gm1, o3⟩
          have C3 := hide (R.out.1.mono (W1.out.trans o3))
          have r3 := hide gm1.rd
          have c30 := (Row.mono (Row.new wr 49 [.int .i64 x, .int .u64 (y : Nat), .int .u64 (k : Nat)]) o3).cell (i := 0) rfl
          by_cases hx : who < x
          · have tx : decide (who < x) = true := decide_eq_true hx
            rw [HU.out x hx] at NS
            have C4 := HA.out ms ps (some ⟨gm, 0, none⟩) n w3 ML.out PL.out PB.out C3.out r3.out
            clear hx C3
            go_wp2_with fail
            refine C4.mono ?_
            rintro e w4 ⟨rfl, c4⟩
            have R2 : Hid (Cov w0 c n (mskO who s n turned acc (l.take (i + 1))) w4 ∧ mskE who s (l.take (i + 1)) = 0) := by
              refine ⟨?_, NE.out⟩
              rw [NS.out]
              exact c4
            clear R NS NE c4 C4
            go_wp2
            try rw [iw]
            go_roundw
            case rel => exact ⟨i + 1, by omega, by simp, R2⟩
            case measure => simp [intOf]; omega
          · have tx : decide (who < x) = false := decide_eq_false hx
            rw [HD.out x (by omega)] at NS
            have C4 := HB.out ms ps (some ⟨gm, 0, none⟩) n w3 ML.out PL.out PB.out C3.out r3.out
            clear hx C3
            go_wp2_with fail
            refine C4.mono ?_
            rintro e w4 ⟨rfl, c4⟩
            have R2 : Hid (Cov w0 c n (mskO who s n turned acc (l.take (i + 1))) w4 ∧ mskE who s (l.take (i + 1)) = 0) := by
              refine ⟨?_, NE.out⟩
              rw [NS.out]
              exact c4
            clear R NS NE c4 C4
            go_wp2
            try rw [iw]
            go_roundw
            case rel => exact ⟨i + 1, by omega, by simp, R2⟩
            case measure => simp [intOf]; omega
        · have tE : ((agE s k : Int) != 0) = true := by rw [bne_iff_ne]; omega
          have ST : Hid (mskE who s l = agE s k) := by
            show _ = _
            rw [mskE_stop who s (l := l) (k := i + 1) (by rw [NE.out]; exact hE), NE.out]
          have CQ : Hid (∀ w', QTab w' → Calls Tryd.prog 8 #[.int .u64 s, .int .u64 (k : Nat), .int .i64 n] w' fun e w'' => e = .returned (.tuple #[.slice none 0 0, .int .i64 (agE s k : Nat)]) ∧ Old w' w'') := fun w' q => MR.no (CP.out w' q) hE
          have HE := hide hE
          clear hE hw NL NE kb ck0 cx0 cy0 CP NS ML PL PB
          generalize agE s k = E at *
          go_wp2_with fail
          refine (CQ.out _ (HQ.out.mono (R.out.1.old.trans W1.out))).mono ?_
          rintro e w2 ⟨rfl, o2⟩
          go_wp2_with fail
          go_ret
          rw [ST.out]
          exact ⟨rfl, fun h => absurd h HE.out, R.out.1.old.trans (W1.out.trans o2)⟩
set_option maxRecDepth 100000 in
set_option maxHeartbeats 8000000 in
theorem eachPair_take {w0 : World} {c : Nat} (who : Int) (s : Nat) (l : List Crd) (a : Option Addr) (m cap n : Nat) (turned : Bool) (hl : l.length = m) (hm : m ≤ 9223372036854775807) (hk : CrdOk l) (hn : n ≤ 256) (rd : CrdIn w0 a l) (q : QTab w0)
    (up down : Nat → Nat → Nat) (hu : ∀ x, who < x → sgn who x turned = up) (hd : ∀ x, ¬ who < x → sgn who x turned = down)
    (KA : ∀ (xs ys : List Nat) (b : Option Addr) (cb : Nat) (w : World), xs.length = n → ys.length = n → (∀ y ∈ ys, y < 4294967296) → Cov w0 c n xs w → Rd w b (nums .u32 ys) → Calls Tryd.prog 31 #[.pointer (some ⟨c, 0, none⟩), .slice b n cb] w fun e w' => e = .returned (.tuple #[]) ∧ Cov w0 c n (List.zipWith up xs ys) w')
    (KB : ∀ (xs ys : List Nat) (b : Option Addr) (cb : Nat) (w : World), xs.length = n → ys.length = n → (∀ y ∈ ys, y < 4294967296) → Cov w0 c n xs w → Rd w b (nums .u32 ys) → Calls Tryd.prog 29 #[.pointer (some ⟨c, 0, none⟩), .slice b n cb] w fun e w' => e = .returned (.tuple #[]) ∧ Cov w0 c n (List.zipWith down xs ys) w')
    (acc : List Nat) (ha : acc.length = n) (w : World) (C : Cov w0 c n acc w) :
    Calls Tryd.prog 30 #[.int .i64 who, .int .u64 s, .slice a m cap, .int .i64 n, .func (.func 31) #[.pointer (some ⟨c, 0, none⟩)] #[], .func (.func 29) #[.pointer (some ⟨c, 0, none⟩)] #[]] w fun e w' =>
      e = .returned (.int .i64 (mskE who s l : Nat)) ∧ (mskE who s l = 0 → Cov w0 c n (mskO who s n turned acc l) w') ∧ Old w0 w' := by
  have RD := hide rd
  have HL := hide hl
  have HK := hide hk
  have HM := hide hm
  have HQ := hide q
  have HU := hide hu
  have HD := hide hd
  have HA := hide KA
  have HB := hide KB
  have LA := hide ha
  have X0 : Hid (Cov w0 c n (mskO who s n turned acc (l.take 0)) w ∧ mskE who s (l.take 0) = 0) := ⟨C, rfl⟩
  have kn : Hid (kept (n : Int) 256 = n) := by show _ = _; unfold kept; omega
  clear hl hm rd hk q hu hd KA KB ha C hn
  go_enter Tryd.func30, Tryd.ntmps30
  go_wp2_with fail
  go_loopw [19] (fun vi wr => ∃ i : Nat, i ≤ m ∧ vi = .int .i64 (i : Int) ∧ Hid (Cov w0 c n (mskO who s n turned acc (l.take i)) wr ∧ mskE who s (l.take i) = 0)) (fun vi _ => m - (intOf vi).toNat)
  case atStart => exact ⟨0, Nat.zero_le _, rfl, X0⟩
  case round =>
    clear X0
    obtain ⟨i, hi, rfl, R⟩ := hrel
    by_cases him : i = m
    · subst him
      have TA : l.take i = l := List.take_of_length_le (by rw [HL.out]; exact Nat.le_refl _)
      rw [TA] at R
      have ti : decide ((i : Int) < (i : Int)) = false := by simp
      clear TA
      go_wp2
      go_ret
      rw [R.out.2]
      exact ⟨rfl, fun _ => R.out.1, R.out.1.old⟩
    · have hlt : i < m := by omega
      have hil : i < l.length := by rw [HL.out]; exact hlt
      have ti : decide ((i : Int) < (m : Int)) = true := by simp; omega
      have q0 : (0 : Int) ≤ i := by omega
      have q1 : (i : Int) < m := by omega
      have iw : wrap64 ((i : Int) + 1) = ((i + 1 : Nat) : Int) := by have := HM.out; unfold wrap64; omega
      obtain ⟨b, off, rfl, cx0, cy0, ck0⟩ := RD.out i l[i] (by simp [hil])
      have cx := R.out.1.old.cell cx0
      have cy := R.out.1.old.cell cy0
      have ck := R.out.1.old.cell ck0
      have kb := (HK.out l[i] (by simp)).2.2.2
      have NL := hide (mskO_next who s n turned acc (l := l) (k := i) (c := l[i]) (by simp [hil]))
      have NE := hide (mskE_next who s (l := l) (k := i) (c := l[i]) (by simp [hil]) R.out.2)
      have W1 := hide (Old.of_alloc wr (.cells #[.int .i64 l[i].who, .int .u64 (l[i].lock : Nat), .int .u64 (l[i].key : Nat)] 49))
      generalize l[i] = cc at *
      obtain ⟨x, y, k⟩ := cc
      dsimp only at *
      by_cases hw : x = who
      · have tw : (x == who) = true := by rw [beq_iff_eq]; exact hw
        have R2 : Hid (Cov w0 c n (mskO who s n turned acc (l.take (i + 1))) (wr.alloc (.cells #[.int .i64 x, .int .u64 (y : Nat), .int .u64 (k : Nat)] 49)) ∧ mskE who s (l.take (i + 1)) = 0) := by
          refine ⟨?_, ?_⟩
          · rw [NL.out, mskS, if_pos hw]; exact R.out.1.mono W1.out
          · rw [NE.out, if_pos hw]
        clear hw NL NE R ck0 cx0 cy0 W1
        go_wp2_with fail
        try rw [iw]
        go_roundw
        case rel => exact ⟨i + 1, by omega, by simp, R2⟩
        case measure => simp [intOf]; omega
      · have tw : (x == who) = false := by rw [beq_eq_false_iff_ne]; exact hw
        have NS : Hid (mskO who s n turned acc (l.take (i + 1)) = List.zipWith (sgn who x turned) (mskO who s n turned acc (l.take i)) (pairV (powP k s) n)) := by
          show _ = _
          rw [NL.out, mskS, if_neg hw]
        rw [if_neg hw] at NE
        have CP := hide (fun (w' : World) (q : QTab w') => maskPair_any s k kb n w' q)
        rw [kn.out] at CP
        have ML : Hid ((mskO who s n turned acc (l.take i)).length = n) := mskO_length LA.out
        have PL := hide (pairV_length (powP k s) n)
        have PB := hide (pairV_lt (powP k s) n)
        by_cases hE : agE s k = 0
        · have CQ : Hid (∀ w', QTab w' → Calls Tryd.prog 8 #[.int .u64 s, .int .u64 (k : Nat), .int .i64 n] w' fun e w'' => ∃ g, w'.heap.size ≤ g ∧ e = .returned (.tuple #[.slice (some ⟨g, 0, none⟩) n n, .int .i64 0]) ∧ Row w'' g 41 (nums .u32 (pairV (powP k s) n)) ∧ Old w' w'') := fun w' q => MR.yes (CP.out w' q) hE
          rw [hE] at NE
          generalize pairV (powP k s) n = ps at *
          generalize mskO who s n turned acc (l.take i) = ms at *
          clear hE NL kb ck0 cx0 cy0 CP hw
          go_wp2_with fail
          refine (CQ.out _ (HQ.out.mono (R.out.1.old.trans W1.out))).mono ?_
          rintro e w3 ⟨gm, gm0, rfl, gm1, o3⟩
          have C3 := hide (R.out.1.mono (W1.out.trans o3))
          have r3 := hide gm1.rd
          have c30 := (Row.mono (Row.new wr 49 [.int .i64 x, .int .u64 (y : Nat), .int .u64 (k : Nat)]) o3).cell (i := 0) rfl
          by_cases hx : who < x
          · have tx : decide (who < x) = true := decide_eq_true hx
            rw [HU.out x hx] at NS
            have C4 := HA.out ms ps (some ⟨gm, 0, none⟩) n w3 ML.out PL.out PB.out C3.out r3.out
            clear hx C3
            go_wp2_with fail
            refine C4.mono ?_
            rintro e w4 ⟨rfl, c4⟩
            have R2 : Hid (Cov w0 c n (mskO who s n turned acc (l.take (i + 1))) w4 ∧ mskE who s (l.take (i + 1)) = 0) := by
              refine ⟨?_, NE.out⟩
              rw [NS.out]
              exact c4
            clear R NS NE c4 C4
            go_wp2
            try rw [iw]
            go_roundw
            case rel => exact ⟨i + 1, by omega, by simp, R2⟩
            case measure => simp [intOf]; omega
          · have tx : decide (who < x) = false := decide_eq_false hx
            rw [HD.out x (by omega)] at NS
            have C4 := HB.out ms ps (some ⟨gm, 0, none⟩) n w3 ML.out PL.out PB.out C3.out r3.out
            clear hx C3
            go_wp2_with fail
            refine C4.mono ?_
            rintro e w4 ⟨rfl, c4⟩
            have R2 : Hid (Cov w0 c n (mskO who s n turned acc (l.take (i + 1))) w4 ∧ mskE who s (l.take (i + 1)) = 0) := by
              refine ⟨?_, NE.out⟩
              rw [NS.out]
              exact c4
            clear R NS NE c4 C4
            go_wp2
            try rw [iw]
            go_roundw
            case rel => exact ⟨i + 1, by omega, by simp, R2⟩
            case measure => simp [intOf]; omega
        · have tE : ((agE s k : Int) != 0) = true := by rw [bne_iff_ne]; omega
          have ST : Hid (mskE who s l = agE s k) := by
            show _ = _
            rw [mskE_stop who s (l := l) (k := i + 1) (by rw [NE.out]; exact hE), NE.out]
          have CQ : Hid (∀ w', QTab w' → Calls Tryd.prog 8 #[.int .u64 s, .int .u64 (k : Nat), .int .i64 n] w' fun e w'' => e = .returned (.tuple #[.slice none 0 0, .int .i64 (agE s k : Nat)]) ∧ Old w' w'') := fun w' q => MR.no (CP.out w' q) hE
          have HE := hide hE
          clear hE hw NL NE kb ck0 cx0 cy0 CP NS ML PL PB
          generalize agE s k = E at *
          go_wp2_with fail
          refine (CQ.out _ (HQ.out.mono (R.out.1.old.trans W1.out))).mono ?_
          rintro e w2 ⟨rfl, o2⟩
          go_wp2_with fail
          go_ret
          rw [ST.out]
          exact ⟨rfl, fun h => absurd h HE.out, R.out.1.old.trans (W1.out.trans o2)⟩
end Go.Proofs.YtjbpnhibgafdmaaDoor

/-
  The landed mask, last part: Hide and Left.
-/
namespace Go.Proofs.YtjbpnhibgafdmaaDoor
open Go.RowKit Cha M Vec Sl Mk
set_option linter.unusedVariables false

set_option maxRecDepth 100000 in
set_option maxHeartbeats 4000000 in
theorem maskLeft_arg (who : Int) (s : Nat) (l : List Crd) (a : Option Addr) (m cap : Nat) (hl : l.length = m) (hm : m ≤ 9223372036854775807) (n : Int) (w : World) (rd : CrdIn w a l) (hB : argB who n l = false) :
    Calls Tryd.prog 18 #[.int .i64 who, .int .u64 s, .slice a m cap, .int .i64 n] w fun e w' => e = .returned (.tuple #[.slice none 0 0, .int .i64 1]) ∧ Old w w' := by
  have C1 := hide (maskDonor_any who)
  have C2 := hide (fun (w' : World) (o : Old w w') => maskRise_any l a m cap hl hm w' (rd.mono o))
  unfold argB at hB
  clear hl hm rd
  cases h1 : (decide (1 ≤ who) && decide (who ≤ 64))
  · rw [h1] at C1
    clear h1 hB C2
    go_enter Tryd.func18, Tryd.ntmps18
    go_wp2_with fail
    refine (C1.out _).mono ?_
    rintro e w1 ⟨rfl, rfl⟩
    go_wp2_with fail
    go_ret2
    exact ⟨rfl, Old.refl _⟩
  · rw [h1] at C1 hB
    rw [Bool.true_and] at hB
    by_cases h2 : n < 0
    · have t2 : decide (n < 0) = true := decide_eq_true h2
      clear h1 hB C2 h2
      go_enter Tryd.func18, Tryd.ntmps18
      go_wp2_with fail
      refine (C1.out _).mono ?_
      rintro e w1 ⟨rfl, rfl⟩
      go_wp2_with fail
      go_ret2
      exact ⟨rfl, Old.refl _⟩
    · have t2 : decide (n < 0) = false := decide_eq_false h2
      by_cases h3 : 256 < n
      · have t3 : decide (256 < n) = true := decide_eq_true h3
        clear h1 hB C2 h2 h3
        go_enter Tryd.func18, Tryd.ntmps18
        go_wp2_with fail
        refine (C1.out _).mono ?_
        rintro e w1 ⟨rfl, rfl⟩
        go_wp2_with fail
        go_ret2
        exact ⟨rfl, Old.refl _⟩
      · have t3 : decide (256 < n) = false := decide_eq_false h3
        rw [decide_eq_true (p := 0 ≤ n) (by omega), decide_eq_true (p := n ≤ 256) (by omega), Bool.true_and, Bool.true_and] at hB
        rw [hB] at C2
        clear h1 hB h2 h3
        go_enter Tryd.func18, Tryd.ntmps18
        go_wp2_with fail
        refine (C1.out _).mono ?_
        rintro e w1 ⟨rfl, rfl⟩
        go_wp2_with fail
        refine (C2.out _ (Old.refl _)).mono ?_
        rintro e w1 ⟨rfl, o1⟩
        go_wp2_with fail
        go_ret2
        exact ⟨rfl, o1⟩

set_option maxRecDepth 100000 in
set_option maxHeartbeats 4000000 in
theorem maskLeft_run (who : Int) (s : Nat) (l : List Crd) (a : Option Addr) (m cap n : Nat) (hl : l.length = m) (hm : m ≤ 9223372036854775807) (hk : CrdOk l) (w : World) (rd : CrdIn w a l) (q : QTab w) (hB : argB who n l = true) :
    Calls Tryd.prog 18 #[.int .i64 who, .int .u64 s, .slice a m cap, .int .i64 n] w (MR w (mskE who s l) n (mskL who s n true l)) := by
  have C1 := hide (maskDonor_any who)
  have C2 := hide (fun (w' : World) (o : Old w w') => maskRise_any l a m cap hl hm w' (rd.mono o))
  obtain ⟨⟨⟨h1, h2⟩, h3, h4⟩, hr⟩ : ((1 ≤ who ∧ who ≤ 64) ∧ 0 ≤ (n : Int) ∧ (n : Int) ≤ 256) ∧ riseB l = true := by
    unfold argB at hB
    simpa [Bool.and_eq_true, decide_eq_true_eq] using hB
  rw [decide_eq_true h1, decide_eq_true h2, Bool.and_self] at C1
  rw [hr] at C2
  have t2 : decide ((n : Int) < 0) = false := decide_eq_false (by omega)
  have t3 : decide ((256 : Int) < (n : Int)) = false := decide_eq_false (by omega)
  have hmk := make_u32 n (by omega)
  have n0 : (0 : Int) ≤ (n : Int) := h3
  have n1 : n ≤ 256 := by omega
  go_enter Tryd.func18, Tryd.ntmps18
  go_wp2_with fail
  refine (C1.out _).mono ?_
  rintro e w1 ⟨rfl, rfl⟩
  go_wp2_with fail
  refine (C2.out _ (Old.refl _)).mono ?_
  rintro e w2 ⟨rfl, o1⟩
  go_wp2_with fail
  have V0 : Hid (Cov w1 (w2.heap.size + 1) n (List.replicate n 0) ((w2.alloc (.cells (nums .u32 (List.replicate n 0)).toArray 41)).alloc (.cells #[.slice (some ⟨w2.heap.size, 0, none⟩) n n] 59))) := by
    refine ⟨(o1.alloc _).alloc _, by have := o1.size; omega, w2.heap.size, o1.size, ?_, (Row.new _ _ _).mono (Old.of_alloc _ _)⟩
    have := Row.new (w2.alloc (.cells (nums .u32 (List.replicate n 0)).toArray 41)) 59 [.slice (some ⟨w2.heap.size, 0, none⟩) n n]
    rw [size_alloc] at this
    exact this
  have E := hide (eachPair_take (w0 := w1) (c := w2.heap.size + 1) who s l a m cap n true hl hm hk n1 rd q sub32 add32 (fun x hx => by unfold sgn; rw [decide_eq_true hx]; rfl) (fun x hx => by unfold sgn; rw [decide_eq_false hx]; rfl)
    (fun xs ys b cb w' hx hy hb C r => coverTake_any xs ys b cb w' (by omega) hx hy hb C r) (fun xs ys b cb w' hx hy hb C r => coverAdd_any xs ys b cb w' (by omega) hx hy C r) (List.replicate n 0) (by simp) _ V0.out)
  rw [show mskO who s n true (List.replicate n 0) l = mskL who s n true l from rfl] at E
  refine E.out.mono ?_
  clear E V0 hmk C1 C2
  generalize mskE who s l = er at *
  generalize mskL who s n true l = ms at *
  generalize w2.heap.size + 1 = c at *
  rintro e w3 ⟨rfl, hc, o3⟩
  by_cases h0 : er = 0
  · subst h0
    obtain ⟨g, g0, R1, R2⟩ := (hc rfl).box
    have c0 := R1.cell (i := 0) rfl
    have H := hide R2
    clear hc R1 R2
    rw [show ((0 : Nat) : Int) = 0 from rfl]
    go_wp2_with fail
    go_ret2
    exact ⟨fun h => absurd rfl h, fun _ => ⟨g, g0, rfl, H.out⟩, o3⟩
  · have t1 : ((er : Int) != 0) = true := by rw [bne_iff_ne]; omega
    have H := hide h0
    clear h0 hc
    go_wp2_with fail
    go_ret2
    exact ⟨fun _ => rfl, fun h => absurd h H.out, o3⟩

set_option maxRecDepth 100000 in
set_option maxHeartbeats 4000000 in
theorem maskHide_arg (xs : List Nat) (ax : Option Addr) (n cx : Nat) (hx : xs.length = n) (hn : n ≤ 35184372088832) (who : Int) (sd : List Nat) (s : Nat) (l : List Crd) (a : Option Addr) (m cap : Nat) (hl : l.length = m) (hm : m ≤ 9223372036854775807) (w : World) (rd : CrdIn w a l) (hB : argB who n l = false) :
    Calls Tryd.prog 16 #[.slice ax n cx, .int .i64 who, .agg (nums .u8 sd).toArray, .int .u64 s, .slice a m cap] w fun e w' => e = .returned (.tuple #[.slice none 0 0, .int .i64 1]) ∧ Old w w' := by
  have C1 := hide (maskDonor_any who)
  have C2 := hide (fun (w' : World) (o : Old w w') => maskRise_any l a m cap hl hm w' (rd.mono o))
  have O0 := hide (Old.of_alloc w (.cells (nums .u8 sd).toArray 32))
  unfold argB at hB
  clear hl hm rd
  cases h1 : (decide (1 ≤ who) && decide (who ≤ 64))
  · rw [h1] at C1
    clear h1 hB C2
    go_enter Tryd.func16, Tryd.ntmps16
    go_wp2_with fail
    refine (C1.out _).mono ?_
    rintro e w1 ⟨rfl, rfl⟩
    go_wp2_with fail
    go_ret2
    exact ⟨rfl, O0.out⟩
  · rw [h1] at C1 hB
    rw [Bool.true_and] at hB
    by_cases h3 : 256 < n
    · have t3 : decide ((256 : Int) < (n : Int)) = true := decide_eq_true (by omega)
      clear h1 hB C2 h3
      go_enter Tryd.func16, Tryd.ntmps16
      go_wp2_with fail
      refine (C1.out _).mono ?_
      rintro e w1 ⟨rfl, rfl⟩
      go_wp2_with fail
      go_ret2
      exact ⟨rfl, O0.out⟩
    · have t3 : decide ((256 : Int) < (n : Int)) = false := decide_eq_false (by omega)
      rw [decide_eq_true (p := 0 ≤ (n : Int)) (by omega), decide_eq_true (p := (n : Int) ≤ 256) (by omega), Bool.true_and, Bool.true_and] at hB
      rw [hB] at C2
      clear h1 hB h3
      go_enter Tryd.func16, Tryd.ntmps16
      go_wp2_with fail
      refine (C1.out _).mono ?_
      rintro e w1 ⟨rfl, rfl⟩
      go_wp2_with fail
      refine (C2.out _ O0.out).mono ?_
      rintro e w1 ⟨rfl, o1⟩
      go_wp2_with fail
      go_ret2
      exact ⟨rfl, O0.out.trans o1⟩

set_option maxRecDepth 100000 in
set_option maxHeartbeats 4000000 in
theorem maskHide_run (xs : List Nat) (ax : Option Addr) (n cx : Nat) (hx : xs.length = n) (hn : n ≤ 35184372088832) (hxb : ∀ x ∈ xs, x < 4294967296) (who : Int) (sd : List Nat) (hsd : sd.length = 32) (hsb : ∀ x ∈ sd, x < 256) (s : Nat) (l : List Crd) (a : Option Addr) (m cap : Nat) (hl : l.length = m) (hm : m ≤ 9223372036854775807) (hk : CrdOk l) (w : World) (rx : Rd w ax (nums .u32 xs)) (rd : CrdIn w a l) (q : QTab w) (hB : argB who n l = true) :
    Calls Tryd.prog 16 #[.slice ax n cx, .int .i64 who, .agg (nums .u8 sd).toArray, .int .u64 s, .slice a m cap] w (MR w (mskE who s l) n (hidV xs (ownV sd n) (mskL who s n false l))) := by
  have C1 := hide (maskDonor_any who)
  have C2 := hide (fun (w' : World) (o : Old w w') => maskRise_any l a m cap hl hm w' (rd.mono o))
  obtain ⟨⟨⟨h1, h2⟩, h3, h4⟩, hr⟩ : ((1 ≤ who ∧ who ≤ 64) ∧ 0 ≤ (n : Int) ∧ (n : Int) ≤ 256) ∧ riseB l = true := by
    unfold argB at hB
    simpa [Bool.and_eq_true, decide_eq_true_eq] using hB
  rw [decide_eq_true h1, decide_eq_true h2, Bool.and_self] at C1
  rw [hr] at C2
  have t3 : decide ((256 : Int) < (n : Int)) = false := decide_eq_false (by omega)
  have n1 : n ≤ 256 := by omega
  have kn : kept (n : Int) 256 = n := by unfold kept; omega
  have C3 := hide (fun (w' : World) (q : QTab w') => maskOwn_any sd hsd hsb n w' q)
  rw [kn] at C3
  have HI : Hid ((Tryd.prog.info? 32).map (·.size) = some (nums .u8 sd).length) := info_k hsd
  have O0 := hide (Old.of_alloc w (.cells (nums .u8 sd).toArray 32))
  have R0 : Hid (Row (w.alloc (.cells (nums .u8 sd).toArray 32)) w.heap.size 32 (nums .u8 sd)) := Row.new w _ _
  go_enter Tryd.func16, Tryd.ntmps16
  go_wp2_with fail
  refine (C1.out _).mono ?_
  rintro e w1 ⟨rfl, rfl⟩
  go_wp2_with fail
  refine (C2.out _ O0.out).mono ?_
  rintro e w2 ⟨rfl, o1⟩
  have R1 := hide (R0.out.mono o1)
  go_wp2_with (refine wp_load_whole rfl 32 _ rfl w.heap.size rfl R1.out Tryd.underlying32 rfl HI.out ?_)
  refine (C3.out _ (q.mono (O0.out.trans o1))).mono ?_
  rintro e w3 ⟨g, g0, rfl, r3, o3⟩
  have O3 := hide ((O0.out.trans o1).trans o3)
  have X3 := rx.mono O3.out
  have V0 : Hid (Cov w w3.heap.size n (ownV sd n) (w3.alloc (.cells #[.slice (some ⟨g, 0, none⟩) n n] 59))) := by
    refine ⟨O3.out.alloc _, O3.out.size, g, Nat.le_trans (O0.out.trans o1).size g0, Row.new _ _ _, r3.mono (Old.of_alloc _ _)⟩
  have A := hide (coverAdd_any (c := w3.heap.size) (ownV sd n) xs ax cx _ (by omega) (ownV_length sd n) hx V0.out (X3.mono (Old.of_alloc _ _)))
  have E := hide (fun (w' : World) (V : Cov w w3.heap.size n (List.zipWith add32 (ownV sd n) xs) w') => eachPair_add (w0 := w) (c := w3.heap.size) who s l a m cap n false hl hm hk n1 rd q add32 sub32 (fun x hx => by unfold sgn; rw [decide_eq_true hx]; rfl) (fun x hx => by unfold sgn; rw [decide_eq_false hx]; rfl)
    (fun xs ys b cb w' hx hy hb C r => coverAdd_any xs ys b cb w' (by omega) hx hy C r) (fun xs ys b cb w' hx hy hb C r => coverTake_any xs ys b cb w' (by omega) hx hy hb C r) (List.zipWith add32 (ownV sd n) xs) (by rw [List.length_zipWith, ownV_length, hx, Nat.min_self]) w' V)
  have EO : Hid (mskO who s n false (List.zipWith add32 (ownV sd n) xs) l = hidV xs (ownV sd n) (mskL who s n false l)) := by
    show _ = _
    rw [mskO_of _ _ _ _ _ _ (by rw [List.length_zipWith, ownV_length, hx, Nat.min_self]) (zip_lt add32 add32_lt _ _), add_comm32 (ownV sd n) xs]
    rfl
  rw [EO.out] at E
  clear C1 C2 C3 HI R0 R1 V0 X3 EO
  generalize hidV xs (ownV sd n) (mskL who s n false l) = ms at *
  generalize mskE who s l = er at *
  clear O0 rx rd q hx hxb hsb hl hk hB o1 o3 r3 g0 O3
  go_wp2_with fail
  refine A.out.mono ?_
  clear A
  generalize w3.heap.size = c at *
  rintro e w4 ⟨rfl, V4⟩
  have E4 := hide (E.out _ V4)
  clear E V4
  go_wp2_with fail
  refine E4.out.mono ?_
  clear E4
  rintro e w5 ⟨rfl, hc, o5⟩
  by_cases h0 : er = 0
  · subst h0
    obtain ⟨g, g0, R1, R2⟩ := (hc rfl).box
    have c0 := R1.cell (i := 0) rfl
    have H := hide R2
    clear hc R1 R2
    rw [show ((0 : Nat) : Int) = 0 from rfl]
    go_wp2_with fail
    go_ret2
    exact ⟨fun h => absurd rfl h, fun _ => ⟨g, g0, rfl, H.out⟩, o5⟩
  · have t1 : ((er : Int) != 0) = true := by rw [bne_iff_ne]; omega
    have H := hide h0
    clear h0 hc
    go_wp2_with fail
    go_ret2
    exact ⟨fun _ => rfl, fun h => absurd h H.out, o5⟩

theorem maskK : MaskK := by
  refine ⟨fun s hl hb n w q => maskOwn_any s hl hb n w q, fun s p _ hp n w q => maskPair_any s p hp n w q, ?_, ?_⟩
  · intro xs ax n cx hx hn hxb who sd hsd hsb s hs l a m cap hl hm hk w rx rd q
    cases hB : argB who n l
    · have e : masksE who s n l = 1 := by unfold masksE; rw [hB]; rfl
      rw [e]
      exact (maskHide_arg xs ax n cx hx hn who sd s l a m cap hl hm w rd hB).mono fun _ _ ⟨h1, h2⟩ => ⟨fun _ => h1, fun h => absurd h (by decide), h2⟩
    · have e : masksE who s n l = mskE who s l := by unfold masksE; rw [hB]; rfl
      rw [e]
      exact maskHide_run xs ax n cx hx hn hxb who sd hsd hsb s l a m cap hl hm hk w rx rd q hB
  · intro who s hs l a m cap hl hm hk n w rd q
    cases hB : argB who n l
    · have e : masksE who s n l = 1 := by unfold masksE; rw [hB]; rfl
      rw [e]
      exact (maskLeft_arg who s l a m cap hl hm n w rd hB).mono fun _ _ ⟨h1, h2⟩ => ⟨fun _ => h1, fun h => absurd h (by decide), h2⟩
    · have e : masksE who s n l = mskE who s l := by unfold masksE; rw [hB]; rfl
      have hn := argB_n hB
      obtain ⟨k, rfl⟩ : ∃ k : Nat, n = k := ⟨n.toNat, by omega⟩
      rw [e]
      exact maskLeft_run who s l a m cap k hl hm hk w rd q hB
end Go.Proofs.YtjbpnhibgafdmaaDoor
