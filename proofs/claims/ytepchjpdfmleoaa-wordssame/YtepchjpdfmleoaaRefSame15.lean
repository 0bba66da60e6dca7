/-
  The document's own Same of two words (offertoryref14): are they one?
-/
import Derived.Test.YtepchjpdfmleoaaWordM
import Derived.Test.YtepchjpdfmleoaaIntsN
import Derived.Test.YtepchjpdfmleoaaMgSame
import Derived.Test.YtepchjpdfmleoaaTxtN
import Derived.Test.YtepchjpdfmleoaaMgSs
import Derived.Lib.Bytes
import Derived.Deep.DeepCutAuto
namespace Go.Proofs.Ytepchjpdfmleoaa
open Go.RowKit Cn Pn Wn
set_option linter.unusedVariables false

namespace R1
set_option maxHeartbeats 1000000 in
theorem Same_big (n m : Nat) (xs ys : List Nat) (a b : Option Addr) (ca cb : Nat) (w : World) (hn : n ≤ 9223372036854775807)
    (hx : xs.length = n) (hy : ys.length = m) (rx : Rd w a (nums .u64 xs)) (ry : Rd w b (nums .u64 ys)) :
    Calls Try.prog 35 #[.slice a n ca, .slice b m cb] w fun e w' => e = .returned (.bool (decide (xs = ys))) ∧ Old w w' := by
  have HX := hide hx
  have HY := hide hy
  clear hx hy
  by_cases hnm : n = m
  · subst hnm
    go_enter Try.func35, Try.ntmps35
    go_wp2
    go_loopw [5] (fun i wr => ∃ k : Nat, k ≤ n ∧ i = .int .i64 k ∧ Hid (xs.take k = ys.take k) ∧ Old w wr) (fun i _ => n - (intOf i).toNat)
    case atStart => exact ⟨0, Nat.zero_le _, rfl, by show xs.take 0 = ys.take 0; simp, Old.refl _⟩
    case round =>
      obtain ⟨k, hk, rfl, H, hol⟩ := hrel
      by_cases hlt : k < n
      · obtain ⟨b1, o1, x, rfl, Hx, hcx⟩ := (rx.mono hol).num (i := k) (by have := HX.out; omega)
        obtain ⟨b2, o2, y, rfl, Hy, hcy⟩ := (ry.mono hol).num (i := k) (by have := HY.out; omega)
        have iw : wrap64 ((k : Int) + 1) = ((k + 1 : Nat) : Int) := by unfold wrap64; omega
        have hki : (0 : Int) ≤ (k : Int) := by omega
        have hki2 : (k : Int) < (n : Int) := by omega
        by_cases hxy : x = y
        · subst hxy
          go_wp2_with fail
          go_quiet (fail)
          go_wp2
          go_roundw
          case rel => exact ⟨k + 1, by omega, by first | rfl | (rw [iw]) | go_num, take_step64 H.out Hx.out Hy.out rfl, hol.drewN _⟩
          case measure => simp [intOf]; omega
        · have hd : ((x : Int) != (y : Int)) = true := by rw [bne_iff_ne]; omega
          have hd2 : ((x : Int) == (y : Int)) = false := by rw [beq_eq_false_iff_ne]; omega
          have hr : Hid (decide (xs = ys) = false) := by
            show decide _ = false
            rw [decide_eq_false_iff_not]
            intro h
            subst h
            have := Hx.out.symm.trans Hy.out
            simp at this
            exact hxy this
          go_wp2_with fail
          go_quiet (fail)
          go_wp2
          go_ret
          rw [hr.out]
          exact ⟨rfl, hol.drewN _⟩
      · have hr : Hid (decide (xs = ys) = true) := by
          show decide _ = true
          rw [decide_eq_true_iff]
          have := H.out
          have h1 := HX.out
          have h2 := HY.out
          rwa [List.take_of_length_le (by omega), List.take_of_length_le (by omega)] at this
        go_wp2
        go_ret
        rw [hr.out]
        exact ⟨rfl, hol⟩
  · have hd : ((n : Int) == (m : Int)) = false := by rw [beq_eq_false_iff_ne]; omega
    have hd2 : ((n : Int) != (m : Int)) = true := by rw [bne_iff_ne]; omega
    have hr : Hid (decide (xs = ys) = false) := by
      show decide _ = false
      rw [decide_eq_false_iff_not]
      intro h
      subst h
      have h1 := HX.out
      have h2 := HY.out
      omega
    go_enter Try.func35, Try.ntmps35
    go_wp2
    go_ret
    rw [hr.out]
    exact ⟨rfl, Old.refl _⟩
end R1

/-- What is unlike of two words ahead of their cards, parcels and openings. -/
def unlike (c d : Wd) : Bool := decide (c.kind ≠ d.kind) || decide (c.frm ≠ d.frm) || decide (c.why ≠ d.why) || decide (c.cards.length ≠ d.cards.length) || decide (c.parcels.length ≠ d.parcels.length) || decide (c.openings.length ≠ d.openings.length) || !decide (c.who = d.who) || !decide (c.vector = d.vector)
theorem unlike_ne {c d : Wd} (h : unlike c d = true) : decide (c = d) = false := by
  rw [decide_eq_false_iff_not]
  rintro rfl
  simp [unlike] at h
theorem alike_eq {c d : Wd} (h : unlike c d = false) (h1 : c.cards = d.cards) (h2 : c.parcels = d.parcels) (h3 : c.openings = d.openings) : decide (c = d) = true := by
  obtain ⟨c1, c2, c3, c4, c5, c6, c7, c8⟩ := c
  obtain ⟨d1, d2, d3, d4, d5, d6, d7, d8⟩ := d
  simp [unlike] at h h1 h2 h3
  simp [h, h1, h2, h3]
theorem alike_len {c d : Wd} (h : unlike c d = false) : c.cards.length = d.cards.length ∧ c.parcels.length = d.parcels.length ∧ c.openings.length = d.openings.length := by
  simp [unlike] at h
  exact ⟨h.1.1.1.1.2, h.1.1.1.2, h.1.1.2⟩

theorem wholeAt {P : Program} {C : World → Prop} {Ext : World → World → Prop} {Ok : Tmp → Value → World → Prop} {o : Oper} {d : Tmp} (hr : ∀ w, Ext w w) {x : Tmp} {ty : TypeId} (ho : o.op = .load ty (.tmp x)) (hd : o.dst = some d) (b f : Nat) (cs : List Value) (hx : ∀ v w, Ok x v w → v = .pointer (some ⟨b, f, none⟩)) (hrg : ∀ w, C w → w.rangeAt b f cs) {td : TypeDesc}
    (hu : P.underlying ty = some td) (hrow : td.isRow = true) (hi : (P.info? ty).map (·.size) = some cs.length) (h : ∀ w, Ok d (.agg cs.toArray) w) : Ssb.Good P C Ext Ok o :=
  Ssx.val hr hd fun a w hC hop => ⟨_, by
    have hv := hx _ _ (hop x (by rw [ho]; simp [Op.operands]))
    unfold execOp
    simp only [ho, hv, Sem.run_bind, Sem.run_pure, Result.andThen_ok, run_loadAt_mid w b f ty cs td (hrg w hC) hu hrow hi], h w⟩
theorem range3 {w : World} {b f : Nat} {x y z : Value} (h0 : w.cell? ⟨b, f, none⟩ = some x) (h1 : w.cell? ⟨b, f + 1, none⟩ = some y) (h2 : w.cell? ⟨b, f + 2, none⟩ = some z) : w.rangeAt b f [x, y, z] := by
  intro j v hj
  match j, hj with
  | 0, hj => cases hj; exact h0
  | 1, hj => cases hj; exact h1
  | 2, hj => cases hj; exact h2

theorem rowS {w : World} {g : Nat} (t : TypeId) (vs : List Value) (h : g = w.heap.size) : Row (w.alloc (.cells vs.toArray t)) g t vs := by subst h; exact Row.new _ _ _
theorem bsl_inj {l m : List Nat} (hl : ∀ x ∈ l, x < 256) (hm : ∀ x ∈ m, x < 256) (h : (Ssb.bstr l).toList = (Ssb.bstr m).toList) : l = m := by
  have tl : ∀ l : List Nat, (Ssb.bstr l).toList = l.map UInt8.ofNat := fun l => by
    unfold Ssb.bstr
    rw [Lib.strOfNums_toList]
    simp [Lib.bytesOf]
  rw [tl, tl] at h
  have back : ∀ k : List Nat, (∀ x ∈ k, x < 256) → (k.map UInt8.ofNat).map UInt8.toNat = k := by
    intro k hk
    rw [List.map_map]
    conv => rhs; rw [← List.map_id k]
    apply List.map_congr_left
    intro x hx
    have := hk x hx
    simp
    omega
  rw [← back l hl, ← back m hm, h]
/-- Two pointers of the round before. -/
structure Ap (u v : Value) (w : World) : Prop where
  ne : ∀ x y, u = .pointer (some x) → v = .pointer (some y) → x.block ≠ y.block
  lu : ∀ x, u = .pointer (some x) → x.block < w.heap.size
  lv : ∀ x, v = .pointer (some x) → x.block < w.heap.size
theorem Ap.none {u v : Value} {w : World} (h : u = undef ∧ v = undef) : Ap u v w := by
  obtain ⟨rfl, rfl⟩ := h
  exact ⟨fun x y hx => (by cases hx), fun x hx => (by cases hx), fun x hx => (by cases hx)⟩
theorem Ap.two {g h : Nat} {w : World} (hne : g ≠ h) (hg : g < w.heap.size) (hh : h < w.heap.size) : Ap (.pointer (some ⟨g, 0, Option.none⟩)) (.pointer (some ⟨h, 0, Option.none⟩)) w :=
  ⟨fun x y hx hy => (by cases hx; cases hy; exact hne), fun x hx => (by cases hx; exact hg), fun x hx => (by cases hx; exact hh)⟩

set_option maxRecDepth 100000 in
set_option maxHeartbeats 8000000 in
theorem refSame15_any (c d : Wd) (m k : WM) (w : World) (F : WordIn w c m) (G : WordIn w d k) (hs : c.cards.length ≤ 100000 ∧ c.parcels.length ≤ 100000 ∧ c.vector.length ≤ 100000 ∧ c.who.length ≤ 100000 ∧ c.openings.length ≤ 100000) :
    Calls Try.prog 16 #[.agg (wdc c m).toArray, .agg (wdc d k).toArray] w fun e w' => e = .returned (.bool (decide (c = d))) ∧ Old w w' := by
  have HF := hide F
  have HG := hide G
  have HS := hide hs
  have B00 := ((Bxs.nil w).alloc 29 (wdc c m) rfl).alloc 29 (wdc d k) (g := w.heap.size + 1) (by rw [World.size_alloc])
  obtain ⟨W0, hW0⟩ : ∃ W0, W0 = (w.alloc (.cells (wdc c m).toArray 29)).alloc (.cells (wdc d k).toArray 29) := ⟨_, rfl⟩
  have B0 : Hid (Bxs w [(w.heap.size, 29, wdc c m), (w.heap.size + 1, 29, wdc d k)] W0) := by rw [hW0]; exact B00
  have hW := hide hW0
  clear F G hs B00 hW0
  unfold wdc
  go_enter Try.func16, Try.ntmps16
  go_upto_region 1 with fail
  rw [show ((w.alloc (.cells [.int .i64 c.kind, .int .i64 c.frm, .int .i64 c.why, .slice m.a1 c.cards.length m.c1, .slice m.a2 c.parcels.length m.c2, .slice m.a3 c.vector.length m.c3, .slice m.a4 c.who.length m.c4, .slice m.a5 c.openings.length m.c5].toArray 29)).alloc (.cells [.int .i64 d.kind, .int .i64 d.frm, .int .i64 d.why, .slice k.a1 d.cards.length k.c1, .slice k.a2 d.parcels.length k.c2, .slice k.a3 d.vector.length k.c3, .slice k.a4 d.who.length k.c4, .slice k.a5 d.openings.length k.c5].toArray 29)) = W0 from hW.out.symm]
  go_cut [73] from 12 to 73 (fun v wx => v = .bool (unlike c d) ∧ Hid (Bxs w [(w.heap.size, 29, wdc c m), (w.heap.size + 1, 29, wdc d k)] wx))
  case first =>
    have C1 := hide (fun (wx : World) (o : Old W0 wx) => Ints_any c.who.length d.who.length c.who d.who m.a4 k.a4 m.c4 k.c4 wx (by have := HS.out; omega) rfl rfl ((HF.out.mono (B0.out.old.trans o)).who) ((HG.out.mono (B0.out.old.trans o)).who))
    have C2 := hide (fun (wx : World) (o : Old W0 wx) => R1.Cells_any c.vector.length d.vector.length c.vector d.vector m.a3 k.a3 m.c3 k.c3 wx (by have := HS.out; omega) rfl rfl ((HF.out.mono (B0.out.old.trans o)).vector) ((HG.out.mono (B0.out.old.trans o)).vector))
    have BB : Hid (unlike c d = (decide (c.kind ≠ d.kind) || decide (c.frm ≠ d.frm) || decide (c.why ≠ d.why) || decide (c.cards.length ≠ d.cards.length) || decide (c.parcels.length ≠ d.parcels.length) || decide (c.openings.length ≠ d.openings.length) || !decide (c.who = d.who) || !decide (c.vector = d.vector))) := rfl
    have a0 := (B0.out.row 0 rfl).cell (i := 0) rfl
    have a1 := (B0.out.row 0 rfl).cell (i := 1) rfl
    have a2 := (B0.out.row 0 rfl).cell (i := 2) rfl
    have a3 := (B0.out.row 0 rfl).cell (i := 3) rfl
    have a4 := (B0.out.row 0 rfl).cell (i := 4) rfl
    have a5 := (B0.out.row 0 rfl).cell (i := 5) rfl
    have a6 := (B0.out.row 0 rfl).cell (i := 6) rfl
    have a7 := (B0.out.row 0 rfl).cell (i := 7) rfl
    have b0 := (B0.out.row 1 rfl).cell (i := 0) rfl
    have b1' := (B0.out.row 1 rfl).cell (i := 1) rfl
    have b2' := (B0.out.row 1 rfl).cell (i := 2) rfl
    have b3 := (B0.out.row 1 rfl).cell (i := 3) rfl
    have b4 := (B0.out.row 1 rfl).cell (i := 4) rfl
    have b5 := (B0.out.row 1 rfl).cell (i := 5) rfl
    have b6 := (B0.out.row 1 rfl).cell (i := 6) rfl
    have b7 := (B0.out.row 1 rfl).cell (i := 7) rfl
    generalize decide (c.who = d.who) = b1 at *
    generalize decide (c.vector = d.vector) = b2 at *
    by_cases h0 : c.kind = d.kind
    · have u0 : (c.kind != d.kind) = false := by simpa using h0
      rw [decide_eq_false (p := c.kind ≠ d.kind) (fun e => e h0)] at BB
      clear h0
      by_cases h1 : c.frm = d.frm
      · have u1 : (c.frm != d.frm) = false := by simpa using h1
        rw [decide_eq_false (p := c.frm ≠ d.frm) (fun e => e h1), Bool.false_or] at BB
        clear h1
        by_cases h2 : c.why = d.why
        · have u2 : (c.why != d.why) = false := by simpa using h2
          rw [decide_eq_false (p := c.why ≠ d.why) (fun e => e h2), Bool.false_or] at BB
          clear h2
          by_cases h3 : c.cards.length = d.cards.length
          · have u3 : ((c.cards.length : Int) != (d.cards.length : Int)) = false := by simp; omega
            have u3' : (c.cards.length != d.cards.length) = false := by simpa using h3
            rw [decide_eq_false (p := c.cards.length ≠ d.cards.length) (fun e => e h3), Bool.false_or] at BB
            clear h3
            by_cases h4 : c.parcels.length = d.parcels.length
            · have u4 : ((c.parcels.length : Int) != (d.parcels.length : Int)) = false := by simp; omega
              have u4' : (c.parcels.length != d.parcels.length) = false := by simpa using h4
              rw [decide_eq_false (p := c.parcels.length ≠ d.parcels.length) (fun e => e h4), Bool.false_or] at BB
              clear h4
              by_cases h5 : c.openings.length = d.openings.length
              · have u5 : ((c.openings.length : Int) != (d.openings.length : Int)) = false := by simp; omega
                have u5' : (c.openings.length != d.openings.length) = false := by simpa using h5
                rw [decide_eq_false (p := c.openings.length ≠ d.openings.length) (fun e => e h5), Bool.false_or] at BB
                clear h5
                cases b1
                · have E : Hid (unlike c d = true) := by rw [Hid, BB.out]; rfl
                  clear BB
                  go_wp2_with fail
                  refine (C1.out _ (Old.refl _)).mono ?_
                  rintro e w1 ⟨rfl, o1⟩
                  have B1 := hide (B0.out.mono o1)
                  clear o1
                  go_wp2_with fail
                  go_meet
                  exact ⟨by rw [E.out], B1⟩
                · have E : Hid (unlike c d = !b2) := by rw [Hid, BB.out]; rfl
                  clear BB
                  go_wp2_with fail
                  refine (C1.out _ (Old.refl _)).mono ?_
                  rintro e w1 ⟨rfl, o1⟩
                  have B1 := hide (B0.out.mono o1)
                  have O1 := hide o1
                  have a5 := (B1.out.row 0 rfl).cell (i := 5) rfl
                  have b5 := (B1.out.row 1 rfl).cell (i := 5) rfl
                  clear o1
                  go_wp2_with fail
                  refine (C2.out _ O1.out).mono ?_
                  rintro e w2 ⟨rfl, o2⟩
                  have B2 := hide (B1.out.mono o2)
                  clear o2
                  go_wp2_with fail
                  go_meet
                  exact ⟨by rw [E.out], B2⟩
              · have u5 : ((c.openings.length : Int) != (d.openings.length : Int)) = true := by simp; omega
                have u5' : (c.openings.length != d.openings.length) = true := by simpa using h5
                have E : Hid (unlike c d = true) := by rw [Hid, BB.out, decide_eq_true (p := c.openings.length ≠ d.openings.length) h5]; simp
                clear BB h5 C1 C2
                go_wp2_with fail
                go_meet
                exact ⟨by rw [E.out], B0⟩
            · have u4 : ((c.parcels.length : Int) != (d.parcels.length : Int)) = true := by simp; omega
              have u4' : (c.parcels.length != d.parcels.length) = true := by simpa using h4
              have E : Hid (unlike c d = true) := by rw [Hid, BB.out, decide_eq_true (p := c.parcels.length ≠ d.parcels.length) h4]; simp
              clear BB h4 C1 C2
              go_wp2_with fail
              go_meet
              exact ⟨by rw [E.out], B0⟩
          · have u3 : ((c.cards.length : Int) != (d.cards.length : Int)) = true := by simp; omega
            have u3' : (c.cards.length != d.cards.length) = true := by simpa using h3
            have E : Hid (unlike c d = true) := by rw [Hid, BB.out, decide_eq_true (p := c.cards.length ≠ d.cards.length) h3]; simp
            clear BB h3 C1 C2
            go_wp2_with fail
            go_meet
            exact ⟨by rw [E.out], B0⟩
        · have u2 : (c.why != d.why) = true := by simpa using h2
          have E : Hid (unlike c d = true) := by rw [Hid, BB.out, decide_eq_true (p := c.why ≠ d.why) h2]; simp
          clear BB h2 C1 C2
          go_wp2_with fail
          go_meet
          exact ⟨by rw [E.out], B0⟩
      · have u1 : (c.frm != d.frm) = true := by simpa using h1
        have E : Hid (unlike c d = true) := by rw [Hid, BB.out, decide_eq_true (p := c.frm ≠ d.frm) h1]; simp
        clear BB h1 C1 C2
        go_wp2_with fail
        go_meet
        exact ⟨by rw [E.out], B0⟩
    · have u0 : (c.kind != d.kind) = true := by simpa using h0
      have E : Hid (unlike c d = true) := by rw [Hid, BB.out, decide_eq_true (p := c.kind ≠ d.kind) h0]; simp
      clear BB h0 C1 C2
      go_wp2_with fail
      go_meet
      exact ⟨by rw [E.out], B0⟩
  case rest =>
    obtain ⟨rfl, B1⟩ := hcut
    clear B0 hW
    cases hb : unlike c d
    case true =>
      have E := hide (unlike_ne hb)
      have OO := hide B1.out.old
      clear hb
      go_wp2
      go_ret
      exact ⟨by rw [E.out]; rfl, OO.out⟩
    case false =>
      have HB := hide hb
      have LL := hide (alike_len hb)
      clear hb
      go_wp2_with fail
      go_loopw [5] (fun vi wr => ∃ i : Nat, i ≤ c.cards.length ∧ vi = .int .i64 (i : Int) ∧ Hid (c.cards.take i = d.cards.take i) ∧ Hid (Bxs w [(w.heap.size, 29, wdc c m), (w.heap.size + 1, 29, wdc d k)] wr)) (fun vi _ => c.cards.length - (intOf vi).toNat)
      case atStart => exact ⟨0, Nat.zero_le _, rfl, rfl, B1⟩
      case round =>
        clear B1
        obtain ⟨i, hi, rfl, HT, B⟩ := hrel
        have p0 := (B.out.row 0 rfl).cell (i := 3) rfl
        have p1 := (B.out.row 1 rfl).cell (i := 3) rfl
        by_cases hl : i < c.cards.length
        · have t1 : decide ((i : Int) < (c.cards.length : Int)) = true := by simp; omega
          have t1' : decide (i < c.cards.length) = true := by simpa using hl
          have q0 : (0 : Int) ≤ i := by omega
          have q1 : (i : Int) < c.cards.length := by omega
          have hl2 : i < d.cards.length := by have := LL.out.1; omega
          have q2 : (i : Int) < d.cards.length := by omega
          have iw : wrap64 ((i : Int) + 1) = ((i + 1 : Nat) : Int) := by have := HS.out.1; unfold wrap64; omega
          obtain ⟨x, hx⟩ : ∃ x, c.cards[i]? = some x := ⟨_, List.getElem?_eq_getElem hl⟩
          obtain ⟨y, hy⟩ : ∃ y, d.cards[i]? = some y := ⟨_, List.getElem?_eq_getElem hl2⟩
          have NX : Hid (x = y → c.cards.take (i + 1) = d.cards.take (i + 1)) := fun e => by rw [List.take_add_one, List.take_add_one, HT.out, hx, hy, e]
          have ND : Hid (x ≠ y → decide (c = d) = false) := fun h => by
            rw [decide_eq_false_iff_not]
            rintro rfl
            rw [hx] at hy
            exact h (Option.some.inj hy)
          obtain ⟨ab, ao, e1, cx0, cx1, cx2⟩ := (HF.out.mono B.out.old).cards i x hx
          obtain ⟨bb, bo, e2, cy0, cy1, cy2⟩ := (HG.out.mono B.out.old).cards i y hy
          rw [e1] at p0
          rw [e2] at p1
          clear hx hy e1 e2
          obtain ⟨x1, x2, x3⟩ := x
          obtain ⟨y1, y2, y3⟩ := y
          simp only at cx0 cx1 cx2 cy0 cy1 cy2
          by_cases h1 : x1 = y1
          · subst h1
            by_cases h2 : x2 = y2
            · subst h2
              by_cases h3 : x3 = y3
              · subst h3
                have NY := hide (NX.out rfl)
                clear NX ND
                go_wp2_with fail
                go_region
                go_wp2_with fail
                try rw [iw]
                exact ⟨⟨i + 1, by omega, by simp, NY, B.out.mono (Old.of_drewN _ 1)⟩, by simp [intOf]; omega⟩
              · have n3 : ¬ (x3 : Int) = y3 := by omega
                have E := hide (ND.out (by simp [h3]))
                clear NX ND h3
                go_wp2_with fail
                go_region
                go_wp2
                go_ret
                exact ⟨by rw [E.out]; rfl, B.out.old.drewN 1⟩
            · have n2 : ¬ (x2 : Int) = y2 := by omega
              have E := hide (ND.out (by simp [h2]))
              clear NX ND h2
              go_wp2_with fail
              go_region
              go_wp2
              go_ret
              exact ⟨by rw [E.out]; rfl, B.out.old.drewN 1⟩
          · have E := hide (ND.out (by simp [h1]))
            clear NX ND
            go_wp2_with fail
            go_region
            go_wp2
            go_ret
            exact ⟨by rw [E.out]; rfl, B.out.old.drewN 1⟩
        · obtain rfl : i = c.cards.length := by omega
          have t1 : decide ((c.cards.length : Int) < (c.cards.length : Int)) = false := by simp
          have t1' : decide (c.cards.length < c.cards.length) = false := by simp
          have Ecards : Hid (c.cards = d.cards) := by
            have := HT.out
            rw [List.take_of_length_le (Nat.le_refl _), List.take_of_length_le (by rw [LL.out.1]; exact Nat.le_refl _)] at this
            exact this
          have B1 := hide B.out
          clear hl hi HT B
          go_wp2_with fail
          go_loopw [6] (fun vi wr => ∃ i : Nat, i ≤ c.parcels.length ∧ vi = .int .i64 (i : Int) ∧ Hid (c.parcels.take i = d.parcels.take i) ∧ Hid (Bxs w [(w.heap.size, 29, wdc c m), (w.heap.size + 1, 29, wdc d k)] wr)) (fun vi _ => c.parcels.length - (intOf vi).toNat)
          case atStart => exact ⟨0, Nat.zero_le _, rfl, rfl, B1⟩
          case round =>
            clear B1
            obtain ⟨i, hi, rfl, HT, B⟩ := hrel
            have p0 := (B.out.row 0 rfl).cell (i := 4) rfl
            have p1 := (B.out.row 1 rfl).cell (i := 4) rfl
            by_cases hl : i < c.parcels.length
            · have t1 : decide ((i : Int) < (c.parcels.length : Int)) = true := by simp; omega
              have t1' : decide (i < c.parcels.length) = true := by simpa using hl
              have q0 : (0 : Int) ≤ i := by omega
              have q1 : (i : Int) < c.parcels.length := by omega
              have hl2 : i < d.parcels.length := by have := LL.out.2.1; omega
              have q2 : (i : Int) < d.parcels.length := by omega
              have iw : wrap64 ((i : Int) + 1) = ((i + 1 : Nat) : Int) := by have := HS.out.2.1; unfold wrap64; omega
              obtain ⟨x, hx⟩ : ∃ x, c.parcels[i]? = some x := ⟨_, List.getElem?_eq_getElem hl⟩
              obtain ⟨y, hy⟩ : ∃ y, d.parcels[i]? = some y := ⟨_, List.getElem?_eq_getElem hl2⟩
              have NX : Hid (x = y → c.parcels.take (i + 1) = d.parcels.take (i + 1)) := fun e => by rw [List.take_add_one, List.take_add_one, HT.out, hx, hy, e]
              have ND : Hid (x ≠ y → decide (c = d) = false) := fun h => by
                rw [decide_eq_false_iff_not]
                rintro rfl
                rw [hx] at hy
                exact h (Option.some.inj hy)
              obtain ⟨⟨ab, ao, e1, cx0, cx1, cx2⟩, _⟩ := (HF.out.mono B.out.old).parcels i x hx
              obtain ⟨⟨bb, bo, e2, cy0, cy1, cy2⟩, _⟩ := (HG.out.mono B.out.old).parcels i y hy
              have rx := (HF.out.parcels i x hx).2
              have ry := (HG.out.parcels i y hy).2
              have xb := (HF.out.parcelB x (List.mem_of_getElem? hx)).2.2.1
              have yb := (HG.out.parcelB y (List.mem_of_getElem? hy)).2.2.1
              rw [e1] at p0
              rw [e2] at p1
              clear hx hy e1 e2
              obtain ⟨x1, x2, x3⟩ := x
              obtain ⟨y1, y2, y3⟩ := y
              simp only at cx0 cx1 cx2 cy0 cy1 cy2 rx ry xb yb
              go_upto_region 11 with fail
              go_cut [7, 8] from 99 to 108 (fun u v wx => ∃ g h : Nat, u = .pointer (some ⟨g, 0, none⟩) ∧ v = .pointer (some ⟨h, 0, none⟩) ∧ Hid (Bxs w [(w.heap.size, 29, wdc c m), (w.heap.size + 1, 29, wdc d k)] wx) ∧ Hid (Row wx g 50 [.int .i64 x1, .int .i64 x2, .slice (m.pa i) x3.length (m.pc i)]) ∧ Hid (Row wx h 50 [.int .i64 y1, .int .i64 y2, .slice (k.pa i) y3.length (k.pc i)]))
              case first =>
                have p0_0 := Old.cell (w := wr) (w' := wr.drew) ((Old.refl wr).drew) p0
                have p0_1 := Old.cell (w := wr) (w' := (wr.alloc (.cells #[.int .i64 0, .int .i64 0, .slice none 0 0] 50)).drew) (((Old.refl wr).alloc (.cells #[.int .i64 0, .int .i64 0, .slice none 0 0] 50)).drew) p0
                have p0_2 := Old.cell (w := wr) (w' := (wr.alloc (.cells #[.int .i64 0, .int .i64 0, .slice none 0 0] 50))) (((Old.refl wr).alloc (.cells #[.int .i64 0, .int .i64 0, .slice none 0 0] 50))) p0
                have p0_3 := Old.cell (w := wr) (w' := ((wr.alloc (.cells #[.int .i64 0, .int .i64 0, .slice none 0 0] 50)).alloc (.cells #[.int .i64 0, .int .i64 0, .slice none 0 0] 50)).drew) ((((Old.refl wr).alloc (.cells #[.int .i64 0, .int .i64 0, .slice none 0 0] 50)).alloc (.cells #[.int .i64 0, .int .i64 0, .slice none 0 0] 50)).drew) p0
                have p0_4 := Old.cell (w := wr) (w' := ((wr.alloc (.cells #[.int .i64 0, .int .i64 0, .slice none 0 0] 50)).alloc (.cells #[.int .i64 0, .int .i64 0, .slice none 0 0] 50))) ((((Old.refl wr).alloc (.cells #[.int .i64 0, .int .i64 0, .slice none 0 0] 50)).alloc (.cells #[.int .i64 0, .int .i64 0, .slice none 0 0] 50))) p0
                have p1_0 := Old.cell (w := wr) (w' := wr.drew) ((Old.refl wr).drew) p1
                have p1_1 := Old.cell (w := wr) (w' := (wr.alloc (.cells #[.int .i64 0, .int .i64 0, .slice none 0 0] 50)).drew) (((Old.refl wr).alloc (.cells #[.int .i64 0, .int .i64 0, .slice none 0 0] 50)).drew) p1
                have p1_2 := Old.cell (w := wr) (w' := (wr.alloc (.cells #[.int .i64 0, .int .i64 0, .slice none 0 0] 50))) (((Old.refl wr).alloc (.cells #[.int .i64 0, .int .i64 0, .slice none 0 0] 50))) p1
                have p1_3 := Old.cell (w := wr) (w' := ((wr.alloc (.cells #[.int .i64 0, .int .i64 0, .slice none 0 0] 50)).alloc (.cells #[.int .i64 0, .int .i64 0, .slice none 0 0] 50)).drew) ((((Old.refl wr).alloc (.cells #[.int .i64 0, .int .i64 0, .slice none 0 0] 50)).alloc (.cells #[.int .i64 0, .int .i64 0, .slice none 0 0] 50)).drew) p1
                have p1_4 := Old.cell (w := wr) (w' := ((wr.alloc (.cells #[.int .i64 0, .int .i64 0, .slice none 0 0] 50)).alloc (.cells #[.int .i64 0, .int .i64 0, .slice none 0 0] 50))) ((((Old.refl wr).alloc (.cells #[.int .i64 0, .int .i64 0, .slice none 0 0] 50)).alloc (.cells #[.int .i64 0, .int .i64 0, .slice none 0 0] 50))) p1
                have p1_5 := Old.cell (w := wr) (w' := (wr.alloc (.cells #[.int .i64 x1, .int .i64 x2, .slice (m.pa i) x3.length (m.pc i)] 50)).drew) (((Old.refl wr).alloc (.cells #[.int .i64 x1, .int .i64 x2, .slice (m.pa i) x3.length (m.pc i)] 50)).drew) p1
                have p1_6 := Old.cell (w := wr) (w' := (wr.alloc (.cells #[.int .i64 x1, .int .i64 x2, .slice (m.pa i) x3.length (m.pc i)] 50))) (((Old.refl wr).alloc (.cells #[.int .i64 x1, .int .i64 x2, .slice (m.pa i) x3.length (m.pc i)] 50))) p1
                have p1_7 := Old.cell (w := wr) (w' := ((wr.alloc (.cells #[.int .i64 0, .int .i64 0, .slice none 0 0] 50)).alloc (.cells #[.int .i64 x1, .int .i64 x2, .slice (m.pa i) x3.length (m.pc i)] 50)).drew) ((((Old.refl wr).alloc (.cells #[.int .i64 0, .int .i64 0, .slice none 0 0] 50)).alloc (.cells #[.int .i64 x1, .int .i64 x2, .slice (m.pa i) x3.length (m.pc i)] 50)).drew) p1
                have p1_8 := Old.cell (w := wr) (w' := ((wr.alloc (.cells #[.int .i64 0, .int .i64 0, .slice none 0 0] 50)).alloc (.cells #[.int .i64 x1, .int .i64 x2, .slice (m.pa i) x3.length (m.pc i)] 50))) ((((Old.refl wr).alloc (.cells #[.int .i64 0, .int .i64 0, .slice none 0 0] 50)).alloc (.cells #[.int .i64 x1, .int .i64 x2, .slice (m.pa i) x3.length (m.pc i)] 50))) p1
                have p1_9 := Old.cell (w := wr) (w' := ((wr.alloc (.cells #[.int .i64 x1, .int .i64 x2, .slice (m.pa i) x3.length (m.pc i)] 50)).alloc (.cells #[.int .i64 0, .int .i64 0, .slice none 0 0] 50)).drew) ((((Old.refl wr).alloc (.cells #[.int .i64 x1, .int .i64 x2, .slice (m.pa i) x3.length (m.pc i)] 50)).alloc (.cells #[.int .i64 0, .int .i64 0, .slice none 0 0] 50)).drew) p1
                have p1_10 := Old.cell (w := wr) (w' := ((wr.alloc (.cells #[.int .i64 x1, .int .i64 x2, .slice (m.pa i) x3.length (m.pc i)] 50)).alloc (.cells #[.int .i64 0, .int .i64 0, .slice none 0 0] 50))) ((((Old.refl wr).alloc (.cells #[.int .i64 x1, .int .i64 x2, .slice (m.pa i) x3.length (m.pc i)] 50)).alloc (.cells #[.int .i64 0, .int .i64 0, .slice none 0 0] 50))) p1
                have cx0_0 := Old.cell (w := wr) (w' := wr.drew) ((Old.refl wr).drew) cx0
                have cx0_1 := Old.cell (w := wr) (w' := (wr.alloc (.cells #[.int .i64 0, .int .i64 0, .slice none 0 0] 50)).drew) (((Old.refl wr).alloc (.cells #[.int .i64 0, .int .i64 0, .slice none 0 0] 50)).drew) cx0
                have cx0_2 := Old.cell (w := wr) (w' := (wr.alloc (.cells #[.int .i64 0, .int .i64 0, .slice none 0 0] 50))) (((Old.refl wr).alloc (.cells #[.int .i64 0, .int .i64 0, .slice none 0 0] 50))) cx0
                have cx0_3 := Old.cell (w := wr) (w' := ((wr.alloc (.cells #[.int .i64 0, .int .i64 0, .slice none 0 0] 50)).alloc (.cells #[.int .i64 0, .int .i64 0, .slice none 0 0] 50)).drew) ((((Old.refl wr).alloc (.cells #[.int .i64 0, .int .i64 0, .slice none 0 0] 50)).alloc (.cells #[.int .i64 0, .int .i64 0, .slice none 0 0] 50)).drew) cx0
                have cx0_4 := Old.cell (w := wr) (w' := ((wr.alloc (.cells #[.int .i64 0, .int .i64 0, .slice none 0 0] 50)).alloc (.cells #[.int .i64 0, .int .i64 0, .slice none 0 0] 50))) ((((Old.refl wr).alloc (.cells #[.int .i64 0, .int .i64 0, .slice none 0 0] 50)).alloc (.cells #[.int .i64 0, .int .i64 0, .slice none 0 0] 50))) cx0
                have cx1_0 := Old.cell (w := wr) (w' := wr.drew) ((Old.refl wr).drew) cx1
                have cx1_1 := Old.cell (w := wr) (w' := (wr.alloc (.cells #[.int .i64 0, .int .i64 0, .slice none 0 0] 50)).drew) (((Old.refl wr).alloc (.cells #[.int .i64 0, .int .i64 0, .slice none 0 0] 50)).drew) cx1
                have cx1_2 := Old.cell (w := wr) (w' := (wr.alloc (.cells #[.int .i64 0, .int .i64 0, .slice none 0 0] 50))) (((Old.refl wr).alloc (.cells #[.int .i64 0, .int .i64 0, .slice none 0 0] 50))) cx1
                have cx1_3 := Old.cell (w := wr) (w' := ((wr.alloc (.cells #[.int .i64 0, .int .i64 0, .slice none 0 0] 50)).alloc (.cells #[.int .i64 0, .int .i64 0, .slice none 0 0] 50)).drew) ((((Old.refl wr).alloc (.cells #[.int .i64 0, .int .i64 0, .slice none 0 0] 50)).alloc (.cells #[.int .i64 0, .int .i64 0, .slice none 0 0] 50)).drew) cx1
                have cx1_4 := Old.cell (w := wr) (w' := ((wr.alloc (.cells #[.int .i64 0, .int .i64 0, .slice none 0 0] 50)).alloc (.cells #[.int .i64 0, .int .i64 0, .slice none 0 0] 50))) ((((Old.refl wr).alloc (.cells #[.int .i64 0, .int .i64 0, .slice none 0 0] 50)).alloc (.cells #[.int .i64 0, .int .i64 0, .slice none 0 0] 50))) cx1
                have cx2_0 := Old.cell (w := wr) (w' := wr.drew) ((Old.refl wr).drew) cx2
                have cx2_1 := Old.cell (w := wr) (w' := (wr.alloc (.cells #[.int .i64 0, .int .i64 0, .slice none 0 0] 50)).drew) (((Old.refl wr).alloc (.cells #[.int .i64 0, .int .i64 0, .slice none 0 0] 50)).drew) cx2
                have cx2_2 := Old.cell (w := wr) (w' := (wr.alloc (.cells #[.int .i64 0, .int .i64 0, .slice none 0 0] 50))) (((Old.refl wr).alloc (.cells #[.int .i64 0, .int .i64 0, .slice none 0 0] 50))) cx2
                have cx2_3 := Old.cell (w := wr) (w' := ((wr.alloc (.cells #[.int .i64 0, .int .i64 0, .slice none 0 0] 50)).alloc (.cells #[.int .i64 0, .int .i64 0, .slice none 0 0] 50)).drew) ((((Old.refl wr).alloc (.cells #[.int .i64 0, .int .i64 0, .slice none 0 0] 50)).alloc (.cells #[.int .i64 0, .int .i64 0, .slice none 0 0] 50)).drew) cx2
                have cx2_4 := Old.cell (w := wr) (w' := ((wr.alloc (.cells #[.int .i64 0, .int .i64 0, .slice none 0 0] 50)).alloc (.cells #[.int .i64 0, .int .i64 0, .slice none 0 0] 50))) ((((Old.refl wr).alloc (.cells #[.int .i64 0, .int .i64 0, .slice none 0 0] 50)).alloc (.cells #[.int .i64 0, .int .i64 0, .slice none 0 0] 50))) cx2
                have cy0_0 := Old.cell (w := wr) (w' := wr.drew) ((Old.refl wr).drew) cy0
                have cy0_1 := Old.cell (w := wr) (w' := (wr.alloc (.cells #[.int .i64 0, .int .i64 0, .slice none 0 0] 50)).drew) (((Old.refl wr).alloc (.cells #[.int .i64 0, .int .i64 0, .slice none 0 0] 50)).drew) cy0
                have cy0_2 := Old.cell (w := wr) (w' := (wr.alloc (.cells #[.int .i64 0, .int .i64 0, .slice none 0 0] 50))) (((Old.refl wr).alloc (.cells #[.int .i64 0, .int .i64 0, .slice none 0 0] 50))) cy0
                have cy0_3 := Old.cell (w := wr) (w' := ((wr.alloc (.cells #[.int .i64 0, .int .i64 0, .slice none 0 0] 50)).alloc (.cells #[.int .i64 0, .int .i64 0, .slice none 0 0] 50)).drew) ((((Old.refl wr).alloc (.cells #[.int .i64 0, .int .i64 0, .slice none 0 0] 50)).alloc (.cells #[.int .i64 0, .int .i64 0, .slice none 0 0] 50)).drew) cy0
                have cy0_4 := Old.cell (w := wr) (w' := ((wr.alloc (.cells #[.int .i64 0, .int .i64 0, .slice none 0 0] 50)).alloc (.cells #[.int .i64 0, .int .i64 0, .slice none 0 0] 50))) ((((Old.refl wr).alloc (.cells #[.int .i64 0, .int .i64 0, .slice none 0 0] 50)).alloc (.cells #[.int .i64 0, .int .i64 0, .slice none 0 0] 50))) cy0
                have cy0_5 := Old.cell (w := wr) (w' := (wr.alloc (.cells #[.int .i64 x1, .int .i64 x2, .slice (m.pa i) x3.length (m.pc i)] 50)).drew) (((Old.refl wr).alloc (.cells #[.int .i64 x1, .int .i64 x2, .slice (m.pa i) x3.length (m.pc i)] 50)).drew) cy0
                have cy0_6 := Old.cell (w := wr) (w' := (wr.alloc (.cells #[.int .i64 x1, .int .i64 x2, .slice (m.pa i) x3.length (m.pc i)] 50))) (((Old.refl wr).alloc (.cells #[.int .i64 x1, .int .i64 x2, .slice (m.pa i) x3.length (m.pc i)] 50))) cy0
                have cy0_7 := Old.cell (w := wr) (w' := ((wr.alloc (.cells #[.int .i64 0, .int .i64 0, .slice none 0 0] 50)).alloc (.cells #[.int .i64 x1, .int .i64 x2, .slice (m.pa i) x3.length (m.pc i)] 50)).drew) ((((Old.refl wr).alloc (.cells #[.int .i64 0, .int .i64 0, .slice none 0 0] 50)).alloc (.cells #[.int .i64 x1, .int .i64 x2, .slice (m.pa i) x3.length (m.pc i)] 50)).drew) cy0
                have cy0_8 := Old.cell (w := wr) (w' := ((wr.alloc (.cells #[.int .i64 0, .int .i64 0, .slice none 0 0] 50)).alloc (.cells #[.int .i64 x1, .int .i64 x2, .slice (m.pa i) x3.length (m.pc i)] 50))) ((((Old.refl wr).alloc (.cells #[.int .i64 0, .int .i64 0, .slice none 0 0] 50)).alloc (.cells #[.int .i64 x1, .int .i64 x2, .slice (m.pa i) x3.length (m.pc i)] 50))) cy0
                have cy0_9 := Old.cell (w := wr) (w' := ((wr.alloc (.cells #[.int .i64 x1, .int .i64 x2, .slice (m.pa i) x3.length (m.pc i)] 50)).alloc (.cells #[.int .i64 0, .int .i64 0, .slice none 0 0] 50)).drew) ((((Old.refl wr).alloc (.cells #[.int .i64 x1, .int .i64 x2, .slice (m.pa i) x3.length (m.pc i)] 50)).alloc (.cells #[.int .i64 0, .int .i64 0, .slice none 0 0] 50)).drew) cy0
                have cy0_10 := Old.cell (w := wr) (w' := ((wr.alloc (.cells #[.int .i64 x1, .int .i64 x2, .slice (m.pa i) x3.length (m.pc i)] 50)).alloc (.cells #[.int .i64 0, .int .i64 0, .slice none 0 0] 50))) ((((Old.refl wr).alloc (.cells #[.int .i64 x1, .int .i64 x2, .slice (m.pa i) x3.length (m.pc i)] 50)).alloc (.cells #[.int .i64 0, .int .i64 0, .slice none 0 0] 50))) cy0
                have cy1_0 := Old.cell (w := wr) (w' := wr.drew) ((Old.refl wr).drew) cy1
                have cy1_1 := Old.cell (w := wr) (w' := (wr.alloc (.cells #[.int .i64 0, .int .i64 0, .slice none 0 0] 50)).drew) (((Old.refl wr).alloc (.cells #[.int .i64 0, .int .i64 0, .slice none 0 0] 50)).drew) cy1
                have cy1_2 := Old.cell (w := wr) (w' := (wr.alloc (.cells #[.int .i64 0, .int .i64 0, .slice none 0 0] 50))) (((Old.refl wr).alloc (.cells #[.int .i64 0, .int .i64 0, .slice none 0 0] 50))) cy1
                have cy1_3 := Old.cell (w := wr) (w' := ((wr.alloc (.cells #[.int .i64 0, .int .i64 0, .slice none 0 0] 50)).alloc (.cells #[.int .i64 0, .int .i64 0, .slice none 0 0] 50)).drew) ((((Old.refl wr).alloc (.cells #[.int .i64 0, .int .i64 0, .slice none 0 0] 50)).alloc (.cells #[.int .i64 0, .int .i64 0, .slice none 0 0] 50)).drew) cy1
                have cy1_4 := Old.cell (w := wr) (w' := ((wr.alloc (.cells #[.int .i64 0, .int .i64 0, .slice none 0 0] 50)).alloc (.cells #[.int .i64 0, .int .i64 0, .slice none 0 0] 50))) ((((Old.refl wr).alloc (.cells #[.int .i64 0, .int .i64 0, .slice none 0 0] 50)).alloc (.cells #[.int .i64 0, .int .i64 0, .slice none 0 0] 50))) cy1
                have cy1_5 := Old.cell (w := wr) (w' := (wr.alloc (.cells #[.int .i64 x1, .int .i64 x2, .slice (m.pa i) x3.length (m.pc i)] 50)).drew) (((Old.refl wr).alloc (.cells #[.int .i64 x1, .int .i64 x2, .slice (m.pa i) x3.length (m.pc i)] 50)).drew) cy1
                have cy1_6 := Old.cell (w := wr) (w' := (wr.alloc (.cells #[.int .i64 x1, .int .i64 x2, .slice (m.pa i) x3.length (m.pc i)] 50))) (((Old.refl wr).alloc (.cells #[.int .i64 x1, .int .i64 x2, .slice (m.pa i) x3.length (m.pc i)] 50))) cy1
                have cy1_7 := Old.cell (w := wr) (w' := ((wr.alloc (.cells #[.int .i64 0, .int .i64 0, .slice none 0 0] 50)).alloc (.cells #[.int .i64 x1, .int .i64 x2, .slice (m.pa i) x3.length (m.pc i)] 50)).drew) ((((Old.refl wr).alloc (.cells #[.int .i64 0, .int .i64 0, .slice none 0 0] 50)).alloc (.cells #[.int .i64 x1, .int .i64 x2, .slice (m.pa i) x3.length (m.pc i)] 50)).drew) cy1
                have cy1_8 := Old.cell (w := wr) (w' := ((wr.alloc (.cells #[.int .i64 0, .int .i64 0, .slice none 0 0] 50)).alloc (.cells #[.int .i64 x1, .int .i64 x2, .slice (m.pa i) x3.length (m.pc i)] 50))) ((((Old.refl wr).alloc (.cells #[.int .i64 0, .int .i64 0, .slice none 0 0] 50)).alloc (.cells #[.int .i64 x1, .int .i64 x2, .slice (m.pa i) x3.length (m.pc i)] 50))) cy1
                have cy1_9 := Old.cell (w := wr) (w' := ((wr.alloc (.cells #[.int .i64 x1, .int .i64 x2, .slice (m.pa i) x3.length (m.pc i)] 50)).alloc (.cells #[.int .i64 0, .int .i64 0, .slice none 0 0] 50)).drew) ((((Old.refl wr).alloc (.cells #[.int .i64 x1, .int .i64 x2, .slice (m.pa i) x3.length (m.pc i)] 50)).alloc (.cells #[.int .i64 0, .int .i64 0, .slice none 0 0] 50)).drew) cy1
                have cy1_10 := Old.cell (w := wr) (w' := ((wr.alloc (.cells #[.int .i64 x1, .int .i64 x2, .slice (m.pa i) x3.length (m.pc i)] 50)).alloc (.cells #[.int .i64 0, .int .i64 0, .slice none 0 0] 50))) ((((Old.refl wr).alloc (.cells #[.int .i64 x1, .int .i64 x2, .slice (m.pa i) x3.length (m.pc i)] 50)).alloc (.cells #[.int .i64 0, .int .i64 0, .slice none 0 0] 50))) cy1
                have cy2_0 := Old.cell (w := wr) (w' := wr.drew) ((Old.refl wr).drew) cy2
                have cy2_1 := Old.cell (w := wr) (w' := (wr.alloc (.cells #[.int .i64 0, .int .i64 0, .slice none 0 0] 50)).drew) (((Old.refl wr).alloc (.cells #[.int .i64 0, .int .i64 0, .slice none 0 0] 50)).drew) cy2
                have cy2_2 := Old.cell (w := wr) (w' := (wr.alloc (.cells #[.int .i64 0, .int .i64 0, .slice none 0 0] 50))) (((Old.refl wr).alloc (.cells #[.int .i64 0, .int .i64 0, .slice none 0 0] 50))) cy2
                have cy2_3 := Old.cell (w := wr) (w' := ((wr.alloc (.cells #[.int .i64 0, .int .i64 0, .slice none 0 0] 50)).alloc (.cells #[.int .i64 0, .int .i64 0, .slice none 0 0] 50)).drew) ((((Old.refl wr).alloc (.cells #[.int .i64 0, .int .i64 0, .slice none 0 0] 50)).alloc (.cells #[.int .i64 0, .int .i64 0, .slice none 0 0] 50)).drew) cy2
                have cy2_4 := Old.cell (w := wr) (w' := ((wr.alloc (.cells #[.int .i64 0, .int .i64 0, .slice none 0 0] 50)).alloc (.cells #[.int .i64 0, .int .i64 0, .slice none 0 0] 50))) ((((Old.refl wr).alloc (.cells #[.int .i64 0, .int .i64 0, .slice none 0 0] 50)).alloc (.cells #[.int .i64 0, .int .i64 0, .slice none 0 0] 50))) cy2
                have cy2_5 := Old.cell (w := wr) (w' := (wr.alloc (.cells #[.int .i64 x1, .int .i64 x2, .slice (m.pa i) x3.length (m.pc i)] 50)).drew) (((Old.refl wr).alloc (.cells #[.int .i64 x1, .int .i64 x2, .slice (m.pa i) x3.length (m.pc i)] 50)).drew) cy2
                have cy2_6 := Old.cell (w := wr) (w' := (wr.alloc (.cells #[.int .i64 x1, .int .i64 x2, .slice (m.pa i) x3.length (m.pc i)] 50))) (((Old.refl wr).alloc (.cells #[.int .i64 x1, .int .i64 x2, .slice (m.pa i) x3.length (m.pc i)] 50))) cy2
                have cy2_7 := Old.cell (w := wr) (w' := ((wr.alloc (.cells #[.int .i64 0, .int .i64 0, .slice none 0 0] 50)).alloc (.cells #[.int .i64 x1, .int .i64 x2, .slice (m.pa i) x3.length (m.pc i)] 50)).drew) ((((Old.refl wr).alloc (.cells #[.int .i64 0, .int .i64 0, .slice none 0 0] 50)).alloc (.cells #[.int .i64 x1, .int .i64 x2, .slice (m.pa i) x3.length (m.pc i)] 50)).drew) cy2
                have cy2_8 := Old.cell (w := wr) (w' := ((wr.alloc (.cells #[.int .i64 0, .int .i64 0, .slice none 0 0] 50)).alloc (.cells #[.int .i64 x1, .int .i64 x2, .slice (m.pa i) x3.length (m.pc i)] 50))) ((((Old.refl wr).alloc (.cells #[.int .i64 0, .int .i64 0, .slice none 0 0] 50)).alloc (.cells #[.int .i64 x1, .int .i64 x2, .slice (m.pa i) x3.length (m.pc i)] 50))) cy2
                have cy2_9 := Old.cell (w := wr) (w' := ((wr.alloc (.cells #[.int .i64 x1, .int .i64 x2, .slice (m.pa i) x3.length (m.pc i)] 50)).alloc (.cells #[.int .i64 0, .int .i64 0, .slice none 0 0] 50)).drew) ((((Old.refl wr).alloc (.cells #[.int .i64 x1, .int .i64 x2, .slice (m.pa i) x3.length (m.pc i)] 50)).alloc (.cells #[.int .i64 0, .int .i64 0, .slice none 0 0] 50)).drew) cy2
                have cy2_10 := Old.cell (w := wr) (w' := ((wr.alloc (.cells #[.int .i64 x1, .int .i64 x2, .slice (m.pa i) x3.length (m.pc i)] 50)).alloc (.cells #[.int .i64 0, .int .i64 0, .slice none 0 0] 50))) ((((Old.refl wr).alloc (.cells #[.int .i64 x1, .int .i64 x2, .slice (m.pa i) x3.length (m.pc i)] 50)).alloc (.cells #[.int .i64 0, .int .i64 0, .slice none 0 0] 50))) cy2
                go_region
                all_goals
                  go_wp2_with fail
                  go_meet
                  first
                    | exact ⟨_, _, rfl, rfl, B.out.mono ((((Old.refl wr).alloc _).alloc _).drew), (Row.new wr 50 [.int .i64 x1, .int .i64 x2, .slice (m.pa i) x3.length (m.pc i)]).mono (((Old.refl _).alloc _).drew), rowS 50 [.int .i64 y1, .int .i64 y2, .slice (k.pa i) y3.length (k.pc i)] (by rw [World.size_alloc])⟩
                    | exact ⟨_, _, rfl, rfl, B.out.mono ((((Old.refl wr).alloc _).alloc _).drew), rowS 50 [.int .i64 x1, .int .i64 x2, .slice (m.pa i) x3.length (m.pc i)] (by rw [World.size_alloc]), (Row.new wr 50 [.int .i64 y1, .int .i64 y2, .slice (k.pa i) y3.length (k.pc i)]).mono (((Old.refl _).alloc _).drew)⟩
              case rest =>
                obtain ⟨g, h, rfl, rfl, B2, RX, RY⟩ := hcut
                clear B p0 p1 cx0 cx1 cx2 cy0 cy1 cy2
                have x0c := RX.out.cell (i := 0) rfl
                have x1c := RX.out.cell (i := 1) rfl
                have x2c := RX.out.cell (i := 2) rfl
                have y0c := RY.out.cell (i := 0) rfl
                have y1c := RY.out.cell (i := 1) rfl
                have y2c := RY.out.cell (i := 2) rfl
                go_upto_region 12 with fail
                go_cut [129] from 109 to 129 (fun v wx => v = .bool (!decide ((⟨x1, x2, x3⟩ : Parcel) = ⟨y1, y2, y3⟩)) ∧ Hid (Bxs w [(w.heap.size, 29, wdc c m), (w.heap.size + 1, 29, wdc d k)] wx))
                case first =>
                  by_cases h1 : x1 = y1
                  · by_cases h2 : x2 = y2
                    · have u1 : (x1 != y1) = false := by simpa using h1
                      have u2 : (x2 != y2) = false := by simpa using h2
                      have CV1 : (convert 32 9 (.slice (m.pa i) x3.length (m.pc i))).run Try.prog wc = .ok (.string (Ssb.bstr x3)) wc := Ssb.run_bstr Try.underlying32 Try.underlying5 Try.underlying9 rfl (rx.mono B2.out.old)
                      have CV2 : (convert 32 9 (.slice (k.pa i) y3.length (k.pc i))).run Try.prog wc = .ok (.string (Ssb.bstr y3)) wc := Ssb.run_bstr Try.underlying32 Try.underlying5 Try.underlying9 rfl (ry.mono B2.out.old)
                      by_cases h3 : x3 = y3
                      · have E : Hid (decide ((⟨x1, x2, x3⟩ : Parcel) = ⟨y1, y2, y3⟩) = true) := decide_eq_true (by rw [h1, h2, h3])
                        have u3 : ((Ssb.bstr x3).toList == (Ssb.bstr y3).toList) = true := by rw [h3]; simp
                        have u3' : ((Ssb.bstr x3).toList != (Ssb.bstr y3).toList) = false := by rw [h3]; simp
                        clear h1 h2 h3 NX ND rx ry xb yb
                        generalize Ssb.bstr x3 = s1 at *
                        generalize Ssb.bstr y3 = s2 at *
                        go_wp2_with fail
                        go_meet
                        exact ⟨by rw [E.out]; rfl, B2⟩
                      · have E : Hid (decide ((⟨x1, x2, x3⟩ : Parcel) = ⟨y1, y2, y3⟩) = false) := decide_eq_false (fun e => h3 (congrArg Parcel.data e))
                        have u3n : ¬ (Ssb.bstr x3).toList = (Ssb.bstr y3).toList := fun e => h3 (by
                          have := congrArg (fun l => l.map UInt8.toNat) e
                          exact bsl_inj xb yb e)
                        have u3 : ((Ssb.bstr x3).toList == (Ssb.bstr y3).toList) = false := beq_eq_false_iff_ne.2 u3n
                        have u3' : ((Ssb.bstr x3).toList != (Ssb.bstr y3).toList) = true := bne_iff_ne.2 u3n
                        clear h1 h2 h3 NX ND rx ry xb yb u3n
                        generalize Ssb.bstr x3 = s1 at *
                        generalize Ssb.bstr y3 = s2 at *
                        go_wp2_with fail
                        go_meet
                        exact ⟨by rw [E.out]; rfl, B2⟩
                    · have u1 : (x1 != y1) = false := by simpa using h1
                      have u2 : (x2 != y2) = true := by simpa using h2
                      have E : Hid (decide ((⟨x1, x2, x3⟩ : Parcel) = ⟨y1, y2, y3⟩) = false) := decide_eq_false (fun e => h2 (congrArg Parcel.to e))
                      clear h1 h2 NX ND rx ry xb yb
                      go_wp2_with fail
                      go_meet
                      exact ⟨by rw [E.out]; rfl, B2⟩
                  · have u1 : (x1 != y1) = true := by simpa using h1
                    have E : Hid (decide ((⟨x1, x2, x3⟩ : Parcel) = ⟨y1, y2, y3⟩) = false) := decide_eq_false (fun e => h1 (congrArg Parcel.frm e))
                    clear h1 NX ND rx ry xb yb
                    go_wp2_with fail
                    go_meet
                    exact ⟨by rw [E.out]; rfl, B2⟩
                case rest =>
                  obtain ⟨rfl, B3⟩ := hcut
                  clear x0c x1c x2c y0c y1c y2c RX RY B2
                  by_cases hxy : (⟨x1, x2, x3⟩ : Parcel) = ⟨y1, y2, y3⟩
                  · have NY := hide (NX.out hxy)
                    have e1 : decide ((⟨x1, x2, x3⟩ : Parcel) = ⟨y1, y2, y3⟩) = true := decide_eq_true hxy
                    rw [e1]
                    clear NX ND hxy e1
                    have d0 := (B3.out.row 0 rfl).cell (i := 4) rfl
                    go_wp2_with fail
                    try rw [iw]
                    exact ⟨⟨i + 1, by omega, by simp, NY, B3⟩, by simp [intOf]; omega⟩
                  · have E := hide (ND.out hxy)
                    have e1 : decide ((⟨x1, x2, x3⟩ : Parcel) = ⟨y1, y2, y3⟩) = false := decide_eq_false hxy
                    rw [e1]
                    clear NX ND hxy e1
                    have OO := hide B3.out.old
                    go_wp2
                    go_ret
                    exact ⟨by rw [E.out]; rfl, OO.out⟩
            · obtain rfl : i = c.parcels.length := by omega
              have t1 : decide ((c.parcels.length : Int) < (c.parcels.length : Int)) = false := by simp
              have t1' : decide (c.parcels.length < c.parcels.length) = false := by simp
              have Eparcels : Hid (c.parcels = d.parcels) := by
                have := HT.out
                rw [List.take_of_length_le (Nat.le_refl _), List.take_of_length_le (by rw [LL.out.2.1]; exact Nat.le_refl _)] at this
                exact this
              have B1 := hide B.out
              clear hl hi HT B
              go_wp2_with fail
              go_loopw [9] (fun vi wr => ∃ i : Nat, i ≤ c.openings.length ∧ vi = .int .i64 (i : Int) ∧ Hid (c.openings.take i = d.openings.take i) ∧ Hid (Bxs w [(w.heap.size, 29, wdc c m), (w.heap.size + 1, 29, wdc d k)] wr)) (fun vi _ => c.openings.length - (intOf vi).toNat)
              case atStart => exact ⟨0, Nat.zero_le _, rfl, rfl, B1⟩
              case round =>
                clear B1
                obtain ⟨i, hi, rfl, HT, B⟩ := hrel
                have p0 := (B.out.row 0 rfl).cell (i := 7) rfl
                have p1 := (B.out.row 1 rfl).cell (i := 7) rfl
                by_cases hl : i < c.openings.length
                · have t1 : decide ((i : Int) < (c.openings.length : Int)) = true := by simp; omega
                  have t1' : decide (i < c.openings.length) = true := by simpa using hl
                  have q0 : (0 : Int) ≤ i := by omega
                  have q1 : (i : Int) < c.openings.length := by omega
                  have hl2 : i < d.openings.length := by have := LL.out.2.2; omega
                  have q2 : (i : Int) < d.openings.length := by omega
                  have iw : wrap64 ((i : Int) + 1) = ((i + 1 : Nat) : Int) := by have := HS.out.2.2.2.2; unfold wrap64; omega
                  obtain ⟨x, hx⟩ : ∃ x, c.openings[i]? = some x := ⟨_, List.getElem?_eq_getElem hl⟩
                  obtain ⟨y, hy⟩ : ∃ y, d.openings[i]? = some y := ⟨_, List.getElem?_eq_getElem hl2⟩
                  have NX : Hid (x = y → c.openings.take (i + 1) = d.openings.take (i + 1)) := fun e => by rw [List.take_add_one, List.take_add_one, HT.out, hx, hy, e]
                  have ND : Hid (x ≠ y → decide (c = d) = false) := fun h => by
                    rw [decide_eq_false_iff_not]
                    rintro rfl
                    rw [hx] at hy
                    exact h (Option.some.inj hy)
                  obtain ⟨⟨ab, ao, e1, cx0, cx1, cx2⟩, _⟩ := (HF.out.mono B.out.old).openings i x hx
                  obtain ⟨⟨bb, bo, e2, cy0, cy1, cy2⟩, _⟩ := (HG.out.mono B.out.old).openings i y hy
                  have rx := (HF.out.openings i x hx).2
                  have ry := (HG.out.openings i y hy).2
                  have xl := (HF.out.openingB x (List.mem_of_getElem? hx)).2.2
                  rw [e1] at p0
                  rw [e2] at p1
                  clear hx hy e1 e2
                  obtain ⟨x1, x2, x3⟩ := x
                  obtain ⟨y1, y2, y3⟩ := y
                  simp only at cx0 cx1 cx2 cy0 cy1 cy2 rx ry xl
                  go_upto_region 17 with fail
                  go_cut [10, 11] from 137 to 146 (fun u v wx => ∃ g h : Nat, u = .pointer (some ⟨g, 0, none⟩) ∧ v = .pointer (some ⟨h, 0, none⟩) ∧ Hid (Bxs w [(w.heap.size, 29, wdc c m), (w.heap.size + 1, 29, wdc d k)] wx) ∧ Hid (Row wx g 53 [.int .i64 x1, .bool x2, .slice (m.oa i) x3.length (m.oc i)]) ∧ Hid (Row wx h 53 [.int .i64 y1, .bool y2, .slice (k.oa i) y3.length (k.oc i)]))
                  case first =>
                    have p0_0 := Old.cell (w := wr) (w' := wr.drew) ((Old.refl wr).drew) p0
                    have p0_1 := Old.cell (w := wr) (w' := (wr.alloc (.cells #[.int .i64 0, .bool false, .slice none 0 0] 53)).drew) (((Old.refl wr).alloc (.cells #[.int .i64 0, .bool false, .slice none 0 0] 53)).drew) p0
                    have p0_2 := Old.cell (w := wr) (w' := (wr.alloc (.cells #[.int .i64 0, .bool false, .slice none 0 0] 53))) (((Old.refl wr).alloc (.cells #[.int .i64 0, .bool false, .slice none 0 0] 53))) p0
                    have p0_3 := Old.cell (w := wr) (w' := ((wr.alloc (.cells #[.int .i64 0, .bool false, .slice none 0 0] 53)).alloc (.cells #[.int .i64 0, .bool false, .slice none 0 0] 53)).drew) ((((Old.refl wr).alloc (.cells #[.int .i64 0, .bool false, .slice none 0 0] 53)).alloc (.cells #[.int .i64 0, .bool false, .slice none 0 0] 53)).drew) p0
                    have p0_4 := Old.cell (w := wr) (w' := ((wr.alloc (.cells #[.int .i64 0, .bool false, .slice none 0 0] 53)).alloc (.cells #[.int .i64 0, .bool false, .slice none 0 0] 53))) ((((Old.refl wr).alloc (.cells #[.int .i64 0, .bool false, .slice none 0 0] 53)).alloc (.cells #[.int .i64 0, .bool false, .slice none 0 0] 53))) p0
                    have p1_0 := Old.cell (w := wr) (w' := wr.drew) ((Old.refl wr).drew) p1
                    have p1_1 := Old.cell (w := wr) (w' := (wr.alloc (.cells #[.int .i64 0, .bool false, .slice none 0 0] 53)).drew) (((Old.refl wr).alloc (.cells #[.int .i64 0, .bool false, .slice none 0 0] 53)).drew) p1
                    have p1_2 := Old.cell (w := wr) (w' := (wr.alloc (.cells #[.int .i64 0, .bool false, .slice none 0 0] 53))) (((Old.refl wr).alloc (.cells #[.int .i64 0, .bool false, .slice none 0 0] 53))) p1
                    have p1_3 := Old.cell (w := wr) (w' := ((wr.alloc (.cells #[.int .i64 0, .bool false, .slice none 0 0] 53)).alloc (.cells #[.int .i64 0, .bool false, .slice none 0 0] 53)).drew) ((((Old.refl wr).alloc (.cells #[.int .i64 0, .bool false, .slice none 0 0] 53)).alloc (.cells #[.int .i64 0, .bool false, .slice none 0 0] 53)).drew) p1
                    have p1_4 := Old.cell (w := wr) (w' := ((wr.alloc (.cells #[.int .i64 0, .bool false, .slice none 0 0] 53)).alloc (.cells #[.int .i64 0, .bool false, .slice none 0 0] 53))) ((((Old.refl wr).alloc (.cells #[.int .i64 0, .bool false, .slice none 0 0] 53)).alloc (.cells #[.int .i64 0, .bool false, .slice none 0 0] 53))) p1
                    have p1_5 := Old.cell (w := wr) (w' := (wr.alloc (.cells #[.int .i64 x1, .bool x2, .slice (m.oa i) x3.length (m.oc i)] 53)).drew) (((Old.refl wr).alloc (.cells #[.int .i64 x1, .bool x2, .slice (m.oa i) x3.length (m.oc i)] 53)).drew) p1
                    have p1_6 := Old.cell (w := wr) (w' := (wr.alloc (.cells #[.int .i64 x1, .bool x2, .slice (m.oa i) x3.length (m.oc i)] 53))) (((Old.refl wr).alloc (.cells #[.int .i64 x1, .bool x2, .slice (m.oa i) x3.length (m.oc i)] 53))) p1
                    have p1_7 := Old.cell (w := wr) (w' := ((wr.alloc (.cells #[.int .i64 0, .bool false, .slice none 0 0] 53)).alloc (.cells #[.int .i64 x1, .bool x2, .slice (m.oa i) x3.length (m.oc i)] 53)).drew) ((((Old.refl wr).alloc (.cells #[.int .i64 0, .bool false, .slice none 0 0] 53)).alloc (.cells #[.int .i64 x1, .bool x2, .slice (m.oa i) x3.length (m.oc i)] 53)).drew) p1
                    have p1_8 := Old.cell (w := wr) (w' := ((wr.alloc (.cells #[.int .i64 0, .bool false, .slice none 0 0] 53)).alloc (.cells #[.int .i64 x1, .bool x2, .slice (m.oa i) x3.length (m.oc i)] 53))) ((((Old.refl wr).alloc (.cells #[.int .i64 0, .bool false, .slice none 0 0] 53)).alloc (.cells #[.int .i64 x1, .bool x2, .slice (m.oa i) x3.length (m.oc i)] 53))) p1
                    have p1_9 := Old.cell (w := wr) (w' := ((wr.alloc (.cells #[.int .i64 x1, .bool x2, .slice (m.oa i) x3.length (m.oc i)] 53)).alloc (.cells #[.int .i64 0, .bool false, .slice none 0 0] 53)).drew) ((((Old.refl wr).alloc (.cells #[.int .i64 x1, .bool x2, .slice (m.oa i) x3.length (m.oc i)] 53)).alloc (.cells #[.int .i64 0, .bool false, .slice none 0 0] 53)).drew) p1
                    have p1_10 := Old.cell (w := wr) (w' := ((wr.alloc (.cells #[.int .i64 x1, .bool x2, .slice (m.oa i) x3.length (m.oc i)] 53)).alloc (.cells #[.int .i64 0, .bool false, .slice none 0 0] 53))) ((((Old.refl wr).alloc (.cells #[.int .i64 x1, .bool x2, .slice (m.oa i) x3.length (m.oc i)] 53)).alloc (.cells #[.int .i64 0, .bool false, .slice none 0 0] 53))) p1
                    have cx0_0 := Old.cell (w := wr) (w' := wr.drew) ((Old.refl wr).drew) cx0
                    have cx0_1 := Old.cell (w := wr) (w' := (wr.alloc (.cells #[.int .i64 0, .bool false, .slice none 0 0] 53)).drew) (((Old.refl wr).alloc (.cells #[.int .i64 0, .bool false, .slice none 0 0] 53)).drew) cx0
                    have cx0_2 := Old.cell (w := wr) (w' := (wr.alloc (.cells #[.int .i64 0, .bool false, .slice none 0 0] 53))) (((Old.refl wr).alloc (.cells #[.int .i64 0, .bool false, .slice none 0 0] 53))) cx0
                    have cx0_3 := Old.cell (w := wr) (w' := ((wr.alloc (.cells #[.int .i64 0, .bool false, .slice none 0 0] 53)).alloc (.cells #[.int .i64 0, .bool false, .slice none 0 0] 53)).drew) ((((Old.refl wr).alloc (.cells #[.int .i64 0, .bool false, .slice none 0 0] 53)).alloc (.cells #[.int .i64 0, .bool false, .slice none 0 0] 53)).drew) cx0
                    have cx0_4 := Old.cell (w := wr) (w' := ((wr.alloc (.cells #[.int .i64 0, .bool false, .slice none 0 0] 53)).alloc (.cells #[.int .i64 0, .bool false, .slice none 0 0] 53))) ((((Old.refl wr).alloc (.cells #[.int .i64 0, .bool false, .slice none 0 0] 53)).alloc (.cells #[.int .i64 0, .bool false, .slice none 0 0] 53))) cx0
                    have cx1_0 := Old.cell (w := wr) (w' := wr.drew) ((Old.refl wr).drew) cx1
                    have cx1_1 := Old.cell (w := wr) (w' := (wr.alloc (.cells #[.int .i64 0, .bool false, .slice none 0 0] 53)).drew) (((Old.refl wr).alloc (.cells #[.int .i64 0, .bool false, .slice none 0 0] 53)).drew) cx1
                    have cx1_2 := Old.cell (w := wr) (w' := (wr.alloc (.cells #[.int .i64 0, .bool false, .slice none 0 0] 53))) (((Old.refl wr).alloc (.cells #[.int .i64 0, .bool false, .slice none 0 0] 53))) cx1
                    have cx1_3 := Old.cell (w := wr) (w' := ((wr.alloc (.cells #[.int .i64 0, .bool false, .slice none 0 0] 53)).alloc (.cells #[.int .i64 0, .bool false, .slice none 0 0] 53)).drew) ((((Old.refl wr).alloc (.cells #[.int .i64 0, .bool false, .slice none 0 0] 53)).alloc (.cells #[.int .i64 0, .bool false, .slice none 0 0] 53)).drew) cx1
                    have cx1_4 := Old.cell (w := wr) (w' := ((wr.alloc (.cells #[.int .i64 0, .bool false, .slice none 0 0] 53)).alloc (.cells #[.int .i64 0, .bool false, .slice none 0 0] 53))) ((((Old.refl wr).alloc (.cells #[.int .i64 0, .bool false, .slice none 0 0] 53)).alloc (.cells #[.int .i64 0, .bool false, .slice none 0 0] 53))) cx1
                    have cx2_0 := Old.cell (w := wr) (w' := wr.drew) ((Old.refl wr).drew) cx2
                    have cx2_1 := Old.cell (w := wr) (w' := (wr.alloc (.cells #[.int .i64 0, .bool false, .slice none 0 0] 53)).drew) (((Old.refl wr).alloc (.cells #[.int .i64 0, .bool false, .slice none 0 0] 53)).drew) cx2
                    have cx2_2 := Old.cell (w := wr) (w' := (wr.alloc (.cells #[.int .i64 0, .bool false, .slice none 0 0] 53))) (((Old.refl wr).alloc (.cells #[.int .i64 0, .bool false, .slice none 0 0] 53))) cx2
                    have cx2_3 := Old.cell (w := wr) (w' := ((wr.alloc (.cells #[.int .i64 0, .bool false, .slice none 0 0] 53)).alloc (.cells #[.int .i64 0, .bool false, .slice none 0 0] 53)).drew) ((((Old.refl wr).alloc (.cells #[.int .i64 0, .bool false, .slice none 0 0] 53)).alloc (.cells #[.int .i64 0, .bool false, .slice none 0 0] 53)).drew) cx2
                    have cx2_4 := Old.cell (w := wr) (w' := ((wr.alloc (.cells #[.int .i64 0, .bool false, .slice none 0 0] 53)).alloc (.cells #[.int .i64 0, .bool false, .slice none 0 0] 53))) ((((Old.refl wr).alloc (.cells #[.int .i64 0, .bool false, .slice none 0 0] 53)).alloc (.cells #[.int .i64 0, .bool false, .slice none 0 0] 53))) cx2
                    have cy0_0 := Old.cell (w := wr) (w' := wr.drew) ((Old.refl wr).drew) cy0
                    have cy0_1 := Old.cell (w := wr) (w' := (wr.alloc (.cells #[.int .i64 0, .bool false, .slice none 0 0] 53)).drew) (((Old.refl wr).alloc (.cells #[.int .i64 0, .bool false, .slice none 0 0] 53)).drew) cy0
                    have cy0_2 := Old.cell (w := wr) (w' := (wr.alloc (.cells #[.int .i64 0, .bool false, .slice none 0 0] 53))) (((Old.refl wr).alloc (.cells #[.int .i64 0, .bool false, .slice none 0 0] 53))) cy0
                    have cy0_3 := Old.cell (w := wr) (w' := ((wr.alloc (.cells #[.int .i64 0, .bool false, .slice none 0 0] 53)).alloc (.cells #[.int .i64 0, .bool false, .slice none 0 0] 53)).drew) ((((Old.refl wr).alloc (.cells #[.int .i64 0, .bool false, .slice none 0 0] 53)).alloc (.cells #[.int .i64 0, .bool false, .slice none 0 0] 53)).drew) cy0
                    have cy0_4 := Old.cell (w := wr) (w' := ((wr.alloc (.cells #[.int .i64 0, .bool false, .slice none 0 0] 53)).alloc (.cells #[.int .i64 0, .bool false, .slice none 0 0] 53))) ((((Old.refl wr).alloc (.cells #[.int .i64 0, .bool false, .slice none 0 0] 53)).alloc (.cells #[.int .i64 0, .bool false, .slice none 0 0] 53))) cy0
                    have cy0_5 := Old.cell (w := wr) (w' := (wr.alloc (.cells #[.int .i64 x1, .bool x2, .slice (m.oa i) x3.length (m.oc i)] 53)).drew) (((Old.refl wr).alloc (.cells #[.int .i64 x1, .bool x2, .slice (m.oa i) x3.length (m.oc i)] 53)).drew) cy0
                    have cy0_6 := Old.cell (w := wr) (w' := (wr.alloc (.cells #[.int .i64 x1, .bool x2, .slice (m.oa i) x3.length (m.oc i)] 53))) (((Old.refl wr).alloc (.cells #[.int .i64 x1, .bool x2, .slice (m.oa i) x3.length (m.oc i)] 53))) cy0
                    have cy0_7 := Old.cell (w := wr) (w' := ((wr.alloc (.cells #[.int .i64 0, .bool false, .slice none 0 0] 53)).alloc (.cells #[.int .i64 x1, .bool x2, .slice (m.oa i) x3.length (m.oc i)] 53)).drew) ((((Old.refl wr).alloc (.cells #[.int .i64 0, .bool false, .slice none 0 0] 53)).alloc (.cells #[.int .i64 x1, .bool x2, .slice (m.oa i) x3.length (m.oc i)] 53)).drew) cy0
                    have cy0_8 := Old.cell (w := wr) (w' := ((wr.alloc (.cells #[.int .i64 0, .bool false, .slice none 0 0] 53)).alloc (.cells #[.int .i64 x1, .bool x2, .slice (m.oa i) x3.length (m.oc i)] 53))) ((((Old.refl wr).alloc (.cells #[.int .i64 0, .bool false, .slice none 0 0] 53)).alloc (.cells #[.int .i64 x1, .bool x2, .slice (m.oa i) x3.length (m.oc i)] 53))) cy0
                    have cy0_9 := Old.cell (w := wr) (w' := ((wr.alloc (.cells #[.int .i64 x1, .bool x2, .slice (m.oa i) x3.length (m.oc i)] 53)).alloc (.cells #[.int .i64 0, .bool false, .slice none 0 0] 53)).drew) ((((Old.refl wr).alloc (.cells #[.int .i64 x1, .bool x2, .slice (m.oa i) x3.length (m.oc i)] 53)).alloc (.cells #[.int .i64 0, .bool false, .slice none 0 0] 53)).drew) cy0
                    have cy0_10 := Old.cell (w := wr) (w' := ((wr.alloc (.cells #[.int .i64 x1, .bool x2, .slice (m.oa i) x3.length (m.oc i)] 53)).alloc (.cells #[.int .i64 0, .bool false, .slice none 0 0] 53))) ((((Old.refl wr).alloc (.cells #[.int .i64 x1, .bool x2, .slice (m.oa i) x3.length (m.oc i)] 53)).alloc (.cells #[.int .i64 0, .bool false, .slice none 0 0] 53))) cy0
                    have cy1_0 := Old.cell (w := wr) (w' := wr.drew) ((Old.refl wr).drew) cy1
                    have cy1_1 := Old.cell (w := wr) (w' := (wr.alloc (.cells #[.int .i64 0, .bool false, .slice none 0 0] 53)).drew) (((Old.refl wr).alloc (.cells #[.int .i64 0, .bool false, .slice none 0 0] 53)).drew) cy1
                    have cy1_2 := Old.cell (w := wr) (w' := (wr.alloc (.cells #[.int .i64 0, .bool false, .slice none 0 0] 53))) (((Old.refl wr).alloc (.cells #[.int .i64 0, .bool false, .slice none 0 0] 53))) cy1
                    have cy1_3 := Old.cell (w := wr) (w' := ((wr.alloc (.cells #[.int .i64 0, .bool false, .slice none 0 0] 53)).alloc (.cells #[.int .i64 0, .bool false, .slice none 0 0] 53)).drew) ((((Old.refl wr).alloc (.cells #[.int .i64 0, .bool false, .slice none 0 0] 53)).alloc (.cells #[.int .i64 0, .bool false, .slice none 0 0] 53)).drew) cy1
                    have cy1_4 := Old.cell (w := wr) (w' := ((wr.alloc (.cells #[.int .i64 0, .bool false, .slice none 0 0] 53)).alloc (.cells #[.int .i64 0, .bool false, .slice none 0 0] 53))) ((((Old.refl wr).alloc (.cells #[.int .i64 0, .bool false, .slice none 0 0] 53)).alloc (.cells #[.int .i64 0, .bool false, .slice none 0 0] 53))) cy1
                    have cy1_5 := Old.cell (w := wr) (w' := (wr.alloc (.cells #[.int .i64 x1, .bool x2, .slice (m.oa i) x3.length (m.oc i)] 53)).drew) (((Old.refl wr).alloc (.cells #[.int .i64 x1, .bool x2, .slice (m.oa i) x3.length (m.oc i)] 53)).drew) cy1
                    have cy1_6 := Old.cell (w := wr) (w' := (wr.alloc (.cells #[.int .i64 x1, .bool x2, .slice (m.oa i) x3.length (m.oc i)] 53))) (((Old.refl wr).alloc (.cells #[.int .i64 x1, .bool x2, .slice (m.oa i) x3.length (m.oc i)] 53))) cy1
                    have cy1_7 := Old.cell (w := wr) (w' := ((wr.alloc (.cells #[.int .i64 0, .bool false, .slice none 0 0] 53)).alloc (.cells #[.int .i64 x1, .bool x2, .slice (m.oa i) x3.length (m.oc i)] 53)).drew) ((((Old.refl wr).alloc (.cells #[.int .i64 0, .bool false, .slice none 0 0] 53)).alloc (.cells #[.int .i64 x1, .bool x2, .slice (m.oa i) x3.length (m.oc i)] 53)).drew) cy1
                    have cy1_8 := Old.cell (w := wr) (w' := ((wr.alloc (.cells #[.int .i64 0, .bool false, .slice none 0 0] 53)).alloc (.cells #[.int .i64 x1, .bool x2, .slice (m.oa i) x3.length (m.oc i)] 53))) ((((Old.refl wr).alloc (.cells #[.int .i64 0, .bool false, .slice none 0 0] 53)).alloc (.cells #[.int .i64 x1, .bool x2, .slice (m.oa i) x3.length (m.oc i)] 53))) cy1
                    have cy1_9 := Old.cell (w := wr) (w' := ((wr.alloc (.cells #[.int .i64 x1, .bool x2, .slice (m.oa i) x3.length (m.oc i)] 53)).alloc (.cells #[.int .i64 0, .bool false, .slice none 0 0] 53)).drew) ((((Old.refl wr).alloc (.cells #[.int .i64 x1, .bool x2, .slice (m.oa i) x3.length (m.oc i)] 53)).alloc (.cells #[.int .i64 0, .bool false, .slice none 0 0] 53)).drew) cy1
                    have cy1_10 := Old.cell (w := wr) (w' := ((wr.alloc (.cells #[.int .i64 x1, .bool x2, .slice (m.oa i) x3.length (m.oc i)] 53)).alloc (.cells #[.int .i64 0, .bool false, .slice none 0 0] 53))) ((((Old.refl wr).alloc (.cells #[.int .i64 x1, .bool x2, .slice (m.oa i) x3.length (m.oc i)] 53)).alloc (.cells #[.int .i64 0, .bool false, .slice none 0 0] 53))) cy1
                    have cy2_0 := Old.cell (w := wr) (w' := wr.drew) ((Old.refl wr).drew) cy2
                    have cy2_1 := Old.cell (w := wr) (w' := (wr.alloc (.cells #[.int .i64 0, .bool false, .slice none 0 0] 53)).drew) (((Old.refl wr).alloc (.cells #[.int .i64 0, .bool false, .slice none 0 0] 53)).drew) cy2
                    have cy2_2 := Old.cell (w := wr) (w' := (wr.alloc (.cells #[.int .i64 0, .bool false, .slice none 0 0] 53))) (((Old.refl wr).alloc (.cells #[.int .i64 0, .bool false, .slice none 0 0] 53))) cy2
                    have cy2_3 := Old.cell (w := wr) (w' := ((wr.alloc (.cells #[.int .i64 0, .bool false, .slice none 0 0] 53)).alloc (.cells #[.int .i64 0, .bool false, .slice none 0 0] 53)).drew) ((((Old.refl wr).alloc (.cells #[.int .i64 0, .bool false, .slice none 0 0] 53)).alloc (.cells #[.int .i64 0, .bool false, .slice none 0 0] 53)).drew) cy2
                    have cy2_4 := Old.cell (w := wr) (w' := ((wr.alloc (.cells #[.int .i64 0, .bool false, .slice none 0 0] 53)).alloc (.cells #[.int .i64 0, .bool false, .slice none 0 0] 53))) ((((Old.refl wr).alloc (.cells #[.int .i64 0, .bool false, .slice none 0 0] 53)).alloc (.cells #[.int .i64 0, .bool false, .slice none 0 0] 53))) cy2
                    have cy2_5 := Old.cell (w := wr) (w' := (wr.alloc (.cells #[.int .i64 x1, .bool x2, .slice (m.oa i) x3.length (m.oc i)] 53)).drew) (((Old.refl wr).alloc (.cells #[.int .i64 x1, .bool x2, .slice (m.oa i) x3.length (m.oc i)] 53)).drew) cy2
                    have cy2_6 := Old.cell (w := wr) (w' := (wr.alloc (.cells #[.int .i64 x1, .bool x2, .slice (m.oa i) x3.length (m.oc i)] 53))) (((Old.refl wr).alloc (.cells #[.int .i64 x1, .bool x2, .slice (m.oa i) x3.length (m.oc i)] 53))) cy2
                    have cy2_7 := Old.cell (w := wr) (w' := ((wr.alloc (.cells #[.int .i64 0, .bool false, .slice none 0 0] 53)).alloc (.cells #[.int .i64 x1, .bool x2, .slice (m.oa i) x3.length (m.oc i)] 53)).drew) ((((Old.refl wr).alloc (.cells #[.int .i64 0, .bool false, .slice none 0 0] 53)).alloc (.cells #[.int .i64 x1, .bool x2, .slice (m.oa i) x3.length (m.oc i)] 53)).drew) cy2
                    have cy2_8 := Old.cell (w := wr) (w' := ((wr.alloc (.cells #[.int .i64 0, .bool false, .slice none 0 0] 53)).alloc (.cells #[.int .i64 x1, .bool x2, .slice (m.oa i) x3.length (m.oc i)] 53))) ((((Old.refl wr).alloc (.cells #[.int .i64 0, .bool false, .slice none 0 0] 53)).alloc (.cells #[.int .i64 x1, .bool x2, .slice (m.oa i) x3.length (m.oc i)] 53))) cy2
                    have cy2_9 := Old.cell (w := wr) (w' := ((wr.alloc (.cells #[.int .i64 x1, .bool x2, .slice (m.oa i) x3.length (m.oc i)] 53)).alloc (.cells #[.int .i64 0, .bool false, .slice none 0 0] 53)).drew) ((((Old.refl wr).alloc (.cells #[.int .i64 x1, .bool x2, .slice (m.oa i) x3.length (m.oc i)] 53)).alloc (.cells #[.int .i64 0, .bool false, .slice none 0 0] 53)).drew) cy2
                    have cy2_10 := Old.cell (w := wr) (w' := ((wr.alloc (.cells #[.int .i64 x1, .bool x2, .slice (m.oa i) x3.length (m.oc i)] 53)).alloc (.cells #[.int .i64 0, .bool false, .slice none 0 0] 53))) ((((Old.refl wr).alloc (.cells #[.int .i64 x1, .bool x2, .slice (m.oa i) x3.length (m.oc i)] 53)).alloc (.cells #[.int .i64 0, .bool false, .slice none 0 0] 53))) cy2
                    go_region
                    all_goals
                      go_wp2_with fail
                      go_meet
                      first
                        | exact ⟨_, _, rfl, rfl, B.out.mono ((((Old.refl wr).alloc _).alloc _).drew), (Row.new wr 53 [.int .i64 x1, .bool x2, .slice (m.oa i) x3.length (m.oc i)]).mono (((Old.refl _).alloc _).drew), rowS 53 [.int .i64 y1, .bool y2, .slice (k.oa i) y3.length (k.oc i)] (by rw [World.size_alloc])⟩
                        | exact ⟨_, _, rfl, rfl, B.out.mono ((((Old.refl wr).alloc _).alloc _).drew), rowS 53 [.int .i64 x1, .bool x2, .slice (m.oa i) x3.length (m.oc i)] (by rw [World.size_alloc]), (Row.new wr 53 [.int .i64 y1, .bool y2, .slice (k.oa i) y3.length (k.oc i)]).mono (((Old.refl _).alloc _).drew)⟩
                  case rest =>
                    obtain ⟨g, h, rfl, rfl, B2, RX, RY⟩ := hcut
                    clear B p0 p1 cx0 cx1 cx2 cy0 cy1 cy2
                    have x0c := RX.out.cell (i := 0) rfl
                    have x1c := RX.out.cell (i := 1) rfl
                    have x2c := RX.out.cell (i := 2) rfl
                    have y0c := RY.out.cell (i := 0) rfl
                    have y1c := RY.out.cell (i := 1) rfl
                    have y2c := RY.out.cell (i := 2) rfl
                    go_upto_region 18 with fail
                    go_cut [166] from 147 to 166 (fun v wx => v = .bool (!decide ((⟨x1, x2, x3⟩ : Opening) = ⟨y1, y2, y3⟩)) ∧ Hid (Bxs w [(w.heap.size, 29, wdc c m), (w.heap.size + 1, 29, wdc d k)] wx))
                    case first =>
                      by_cases h1 : x1 = y1
                      · cases x2
                        · cases y2
                          · have u1 : (x1 != y1) = false := by simpa using h1
                            have C1 := hide (R1.Same_big x3.length y3.length x3 y3 (m.oa i) (k.oa i) (m.oc i) (k.oc i) wc (by omega) rfl rfl (rx.mono B2.out.old) (ry.mono B2.out.old))
                            have E : Hid (decide ((⟨x1, false, x3⟩ : Opening) = ⟨y1, false, y3⟩) = decide (x3 = y3)) := by
                              rw [Hid, h1]
                              simp
                            clear h1 NX ND rx ry xl
                            generalize decide (x3 = y3) = b3 at *
                            go_wp2_with fail
                            refine C1.out.mono ?_
                            rintro e w1 ⟨rfl, o1⟩
                            have B4 := hide (B2.out.mono o1)
                            clear o1 C1
                            go_wp2_with fail
                            go_meet
                            exact ⟨by rw [E.out], B4⟩
                          · have u1 : (x1 != y1) = false := by simpa using h1
                            have E : Hid (decide ((⟨x1, false, x3⟩ : Opening) = ⟨y1, true, y3⟩) = false) := decide_eq_false (fun e => by cases congrArg Opening.own e)
                            clear h1 NX ND rx ry xl
                            go_wp2_with fail
                            go_meet
                            exact ⟨by rw [E.out]; rfl, B2⟩
                        · cases y2
                          · have u1 : (x1 != y1) = false := by simpa using h1
                            have E : Hid (decide ((⟨x1, true, x3⟩ : Opening) = ⟨y1, false, y3⟩) = false) := decide_eq_false (fun e => by cases congrArg Opening.own e)
                            clear h1 NX ND rx ry xl
                            go_wp2_with fail
                            go_meet
                            exact ⟨by rw [E.out]; rfl, B2⟩
                          · have u1 : (x1 != y1) = false := by simpa using h1
                            have C1 := hide (R1.Same_big x3.length y3.length x3 y3 (m.oa i) (k.oa i) (m.oc i) (k.oc i) wc (by omega) rfl rfl (rx.mono B2.out.old) (ry.mono B2.out.old))
                            have E : Hid (decide ((⟨x1, true, x3⟩ : Opening) = ⟨y1, true, y3⟩) = decide (x3 = y3)) := by
                              rw [Hid, h1]
                              simp
                            clear h1 NX ND rx ry xl
                            generalize decide (x3 = y3) = b3 at *
                            go_wp2_with fail
                            refine C1.out.mono ?_
                            rintro e w1 ⟨rfl, o1⟩
                            have B4 := hide (B2.out.mono o1)
                            clear o1 C1
                            go_wp2_with fail
                            go_meet
                            exact ⟨by rw [E.out], B4⟩
                      · have u1 : (x1 != y1) = true := by simpa using h1
                        have E : Hid (decide ((⟨x1, x2, x3⟩ : Opening) = ⟨y1, y2, y3⟩) = false) := decide_eq_false (fun e => h1 (congrArg Opening.who e))
                        clear h1 NX ND rx ry xl
                        go_wp2_with fail
                        go_meet
                        exact ⟨by rw [E.out]; rfl, B2⟩
                    case rest =>
                      obtain ⟨rfl, B3⟩ := hcut
                      clear x0c x1c x2c y0c y1c y2c RX RY B2
                      by_cases hxy : (⟨x1, x2, x3⟩ : Opening) = ⟨y1, y2, y3⟩
                      · have NY := hide (NX.out hxy)
                        have e1 : decide ((⟨x1, x2, x3⟩ : Opening) = ⟨y1, y2, y3⟩) = true := decide_eq_true hxy
                        rw [e1]
                        clear NX ND hxy e1
                        have d0 := (B3.out.row 0 rfl).cell (i := 7) rfl
                        go_wp2_with fail
                        try rw [iw]
                        exact ⟨⟨i + 1, by omega, by simp, NY, B3⟩, by simp [intOf]; omega⟩
                      · have E := hide (ND.out hxy)
                        have e1 : decide ((⟨x1, x2, x3⟩ : Opening) = ⟨y1, y2, y3⟩) = false := decide_eq_false hxy
                        rw [e1]
                        clear NX ND hxy e1
                        have OO := hide B3.out.old
                        go_wp2
                        go_ret
                        exact ⟨by rw [E.out]; rfl, OO.out⟩
                · obtain rfl : i = c.openings.length := by omega
                  have t1 : decide ((c.openings.length : Int) < (c.openings.length : Int)) = false := by simp
                  have t1' : decide (c.openings.length < c.openings.length) = false := by simp
                  have Eopenings : Hid (c.openings = d.openings) := by
                    have := HT.out
                    rw [List.take_of_length_le (Nat.le_refl _), List.take_of_length_le (by rw [LL.out.2.2]; exact Nat.le_refl _)] at this
                    exact this
                  have B1 := hide B.out
                  clear hl hi HT B
                  have E := hide (alike_eq HB.out Ecards.out Eparcels.out Eopenings.out)
                  have OO := hide B1.out.old
                  go_wp2
                  go_ret
                  exact ⟨by rw [E.out]; rfl, OO.out⟩
end Go.Proofs.Ytepchjpdfmleoaa
