/-
  Layer 12 as it landed: bits of a number written down by a method value.
-/
import Derived.Test.YtegegfoogkpncaaDoorRefWide
import Derived.Test.YtegegfoogkpncaaDoorTab
import Derived.Test.YtegegfoogkpncaaDoorOnesN
import Derived.Laws.Bits64b
namespace Go.Proofs.YtegegfoogkpncaaDoor
open Go.RowKit Pn
set_option linter.unusedVariables false

theorem write_any {gv off n cp j z : Nat} {vs : List Nat} (w : World) (R : Row w gv 38 (nums .u32 vs)) (hj : j < n) (hn : n ≤ 1000) (hz : vs[off + j]? = some z) :
    Calls Tryd.prog 28 #[.slice (some ⟨gv, off, none⟩) n cp, .int .i64 (j : Int)] w fun e w' => e = .returned (.tuple #[]) ∧ w' = w.setCell ⟨gv, off + j, none⟩ (.int .u32 (((z + 1) % 4294967296 : Nat) : Int)) := by
  have cz : w.cell? ⟨gv, off + j, none⟩ = some (.int .u32 (z : Int)) := R.cell (by simp [nums, hz])
  have fz := R.free (off + j)
  have j0 : (0 : Int) ≤ j := by omega
  have j1 : (j : Int) < n := by omega
  have ez : IntKind.u32.wrap ((z : Int) + 1) = (((z + 1) % 4294967296 : Nat) : Int) := by show ((z : Int) + 1) % 4294967296 = _; omega
  revert ez
  generalize (z + 1) % 4294967296 = z1
  intro ez
  clear R hz
  go_enter Tryd.func28, Tryd.ntmps28
  go_wp2
  simp [bodyPost, results, Tryd.results28, go_sem]

/-- The vector in a block of the call's own. -/
structure Cl (w0 : World) (gv : Nat) (vs : List Nat) (wr : World) : Prop where
  old : Old w0 wr
  row : Row wr gv 38 (nums .u32 vs)
  ge : w0.heap.size ≤ gv
theorem Cl.mono {w0 : World} {gv : Nat} {vs : List Nat} {wr w' : World} (h : Cl w0 gv vs wr) (o : Old wr w') : Cl w0 gv vs w' := ⟨h.old.trans o, h.row.mono o, h.ge⟩
theorem Cl.put {w0 : World} {gv : Nat} {vs : List Nat} {wr : World} (h : Cl w0 gv vs wr) (p z : Nat) : Cl w0 gv (vs.set p z) (wr.setCell ⟨gv, p, none⟩ (.int .u32 (z : Int))) := by
  refine ⟨h.old.grown (grown_set _ _ _ _) h.ge, ?_, h.ge⟩
  rw [← nums_set]
  exact h.row.set p _
/-- .. beside a number in its box. -/
structure Eo (w0 w : World) (gv h l : Nat) (vs : List Nat) (wr : World) : Prop where
  cl : Cl w0 gv vs wr
  box : Row wr w.heap.size 59 [.int .u64 (h : Nat), .int .u64 (l : Nat)]
  gr : w.grownBy wr (some gv)
  lt : gv < w.heap.size
theorem Eo.put {w0 w : World} {gv h l : Nat} {vs : List Nat} {wr : World} (e : Eo w0 w gv h l vs wr) (p z : Nat) : Eo w0 w gv h l (vs.set p z) (wr.setCell ⟨gv, p, none⟩ (.int .u32 (z : Int))) :=
  ⟨e.cl.put p z, e.box.grown (grown_set _ _ _ _) (by have := e.lt; omega), grown_trans e.gr (grown_set _ _ _ _), e.lt⟩

set_option maxHeartbeats 4000000 in
theorem eachOne_any {w0 : World} {gv off n cp m : Nat} {vs : List Nat} (T : Tab w0) (hm : m < Wd.M) (h : m < 2 ^ n) (hn : n ≤ 1000) (hl : off + n ≤ vs.length) (w : World) (C : Cl w0 gv vs w) :
    Calls Tryd.prog 30 #[wv m, .func (.func 28) #[.slice (some ⟨gv, off, none⟩) n cp] #[]] w fun e w' => e = .returned (.tuple #[]) ∧ Cl w0 gv (addB off m vs) w' ∧ w.grownBy w' (some gv) := by
  have E0 : Hid (Eo w0 w gv (Wd.hi m) (Wd.lo m) vs (w.alloc (.cells #[.int .u64 (Wd.hi m : Nat), .int .u64 (Wd.lo m : Nat)] 59))) :=
    ⟨C.mono (Old.of_alloc _ _), Row.new _ _ _, grown_old (Old.of_alloc _ _) _, C.row.lt⟩
  have EQ := hide (addB_halves off (Wd.lo m) (Wd.hi m) vs (Wd.lo_lt m))
  have e1 : Wd.hi m * 18446744073709551616 + Wd.lo m = m := by unfold Wd.hi Wd.lo Wd.M at *; omega
  rw [e1] at EQ
  rw [← EQ.out]
  have TZ := hide (fun x hx h0 w (o : Old w0 w) => tz64_any x hx h0 w (T.mono o))
  have HL := hide hl
  have HM := hide h
  have lb := hide (Wd.lo_lt m)
  have hb := hide (Wd.hi_lt m)
  have P1 : Hid (∀ x : Nat, x ≠ 0 → x ≤ Wd.lo m → Lib.ctz 64 x < n ∧ Lib.ctz 64 x < 64) := fun x h0 hx => by
    have := ctz_place (x := x) (m := m) (n := n) (s := 0) h0 (by have := lb.out; omega) (by omega) h
    obtain ⟨_, _, _⟩ := ctz_of x h0 (by have := lb.out; omega)
    omega
  have P2 : Hid (∀ x : Nat, x ≠ 0 → x ≤ Wd.hi m → 64 + Lib.ctz 64 x < n ∧ Lib.ctz 64 x < 64) := fun x h0 hx => by
    have := ctz_place (x := x) (m := m) (n := n) (s := 64) h0 (by have := hb.out; omega) (by omega) h
    obtain ⟨_, _, _⟩ := ctz_of x h0 (by have := hb.out; omega)
    omega
  unfold wv
  clear C EQ e1 hm h T hl
  generalize Wd.hi m = hh at *
  generalize Wd.lo m = ll at *
  go_enter Tryd.func30, Tryd.ntmps30
  have c1 := E0.out.box.cell (i := 1) rfl
  go_wp2_with fail
  go_loopw [4] (fun v wr => ∃ (x : Nat) (cs : List Nat), v = .int .u64 (x : Int) ∧ x ≤ ll ∧ Hid (addB off x cs = addB off ll vs) ∧ Hid (cs.length = vs.length) ∧ Hid (Eo w0 w gv hh ll cs wr)) (fun v _ => (intOf v).toNat)
  case atStart => exact ⟨ll, vs, rfl, Nat.le_refl _, rfl, rfl, E0⟩
  case round =>
    clear E0 c1
    obtain ⟨x, cs, rfl, hx, EQ, LN, E1⟩ := hrel
    by_cases h0 : x = 0
    · subst h0
      have EQ' := EQ.out
      rw [addB_zero] at EQ'
      have L2 := hide (show cs.length = vs.length from LN.out)
      have E2 := hide E1.out
      have EA := hide EQ'
      clear EQ LN E1 hx EQ'
      have c0 := E2.out.box.cell (i := 0) rfl
      rw [show ((0 : Nat) : Int) = 0 from rfl]
      go_wp2_with fail
      go_loopw [5] (fun v wr => ∃ (x : Nat) (ds : List Nat), v = .int .u64 (x : Int) ∧ x ≤ hh ∧ Hid (addB (off + 64) x ds = addB (off + 64) hh cs) ∧ Hid (ds.length = vs.length) ∧ Hid (Eo w0 w gv hh ll ds wr)) (fun v _ => (intOf v).toNat)
      case atStart => exact ⟨hh, cs, rfl, Nat.le_refl _, rfl, L2, E2⟩
      case round =>
        clear E2 c0
        obtain ⟨x, ds, rfl, hx, EQ, LN, E1⟩ := hrel
        by_cases h0 : x = 0
        · subst h0
          have EQ' := EQ.out
          rw [addB_zero] at EQ'
          have EB := hide EQ'
          have E2 := hide E1.out
          clear EQ EQ' LN E1
          go_wp2
          simp [bodyPost, results, Tryd.results30, go_sem]
          rw [← EA.out, ← EB.out]
          exact ⟨E2.out.cl, E2.out.gr⟩
        · have t1 : ((x : Int) != 0) = true := by simpa using h0
          obtain ⟨p1, p2⟩ := P2.out x h0 hx
          obtain ⟨z, hz⟩ : ∃ z, ds[off + 64 + Lib.ctz 64 x]? = some z := ⟨_, List.getElem?_eq_getElem (by have := HL.out; rw [LN.out]; omega)⟩
          have NX := hide (addB_low (off := off + 64) (x := x) (z := z) (vs := ds) h0 (by have := hb.out; omega) hz)
          rw [EQ.out] at NX
          have LX := hide (low_lt h0)
          have CZ := hide (TZ.out x (by have := hb.out; omega) h0)
          have WR := hide (fun (wr : World) (R : Row wr gv 38 (nums .u32 ds)) => write_any (gv := gv) (off := off) (n := n) (cp := cp) (j := 64 + Lib.ctz 64 x) (z := z) (vs := ds) wr R p1 hn (by rw [← Nat.add_assoc]; exact hz))
          rw [show ((64 + Lib.ctz 64 x : Nat) : Int) = 64 + ((Lib.ctz 64 x : Nat) : Int) by omega, ← Nat.add_assoc] at WR
          have PT := hide (E1.out.put (off + 64 + Lib.ctz 64 x) ((z + 1) % 4294967296))
          have LN2 : Hid ((ds.set (off + 64 + Lib.ctz 64 x) ((z + 1) % 4294967296)).length = vs.length) := by show _ = _; rw [List.length_set]; exact LN.out
          have ew : IntKind.u64.wrap ((x : Int) - 1) = ((x - 1 : Nat) : Int) := by have := hb.out; rw [IntKind.wrap_u64]; omega
          have eb : bits .and .u64 (x : Int) ((x - 1 : Nat) : Int) = ((x &&& (x - 1) : Nat) : Int) := bits_and_u64_nat x (x - 1) (by have := hb.out; omega) (by have := hb.out; omega)
          have p3 : ((Lib.ctz 64 x : Nat) : Int) ≤ 64 := by omega
          have p4 : (0 : Int) ≤ ((Lib.ctz 64 x : Nat) : Int) := by omega
          generalize Lib.ctz 64 x = k at *
          generalize (z + 1) % 4294967296 = z1 at *
          clear EQ LN P1 P2 hz
          go_wp2_with fail
          refine (CZ.out _ E1.out.cl.old).mono ?_
          rintro e w1 ⟨rfl, rfl⟩
          go_wp2_with fail
          refine (WR.out _ E1.out.cl.row).mono ?_
          rintro e w1 ⟨rfl, rfl⟩
          go_wp2
          go_roundw
          case rel => exact ⟨x &&& (x - 1), _, by first | rfl | simp, by have := LX.out; omega, NX, LN2, PT⟩
          case measure => have := LX.out; simp [intOf]; omega
    · have t0 : ((x : Int) != 0) = true := by simpa using h0
      obtain ⟨p1, p2⟩ := P1.out x h0 hx
      obtain ⟨z, hz⟩ : ∃ z, cs[off + Lib.ctz 64 x]? = some z := ⟨_, List.getElem?_eq_getElem (by have := HL.out; rw [LN.out]; omega)⟩
      have NX := hide (addB_low (off := off) (x := x) (z := z) (vs := cs) h0 (by have := lb.out; omega) hz)
      rw [EQ.out] at NX
      have LX := hide (low_lt h0)
      have CZ := hide (TZ.out x (by have := lb.out; omega) h0)
      have WR := hide (fun (wr : World) (R : Row wr gv 38 (nums .u32 cs)) => write_any (gv := gv) (off := off) (n := n) (cp := cp) (j := Lib.ctz 64 x) (z := z) (vs := cs) wr R p1 hn hz)
      have PT := hide (E1.out.put (off + Lib.ctz 64 x) ((z + 1) % 4294967296))
      have LN2 : Hid ((cs.set (off + Lib.ctz 64 x) ((z + 1) % 4294967296)).length = vs.length) := by show _ = _; rw [List.length_set]; exact LN.out
      have ew : IntKind.u64.wrap ((x : Int) - 1) = ((x - 1 : Nat) : Int) := by have := lb.out; rw [IntKind.wrap_u64]; omega
      have eb : bits .and .u64 (x : Int) ((x - 1 : Nat) : Int) = ((x &&& (x - 1) : Nat) : Int) := bits_and_u64_nat x (x - 1) (by have := lb.out; omega) (by have := lb.out; omega)
      generalize Lib.ctz 64 x = k at *
      generalize (z + 1) % 4294967296 = z1 at *
      clear EQ LN P1 P2 hz
      go_wp2_with fail
      refine (CZ.out _ E1.out.cl.old).mono ?_
      rintro e w1 ⟨rfl, rfl⟩
      go_wp2_with fail
      refine (WR.out _ E1.out.cl.row).mono ?_
      rintro e w1 ⟨rfl, rfl⟩
      go_wp2
      go_roundw
      case rel => exact ⟨x &&& (x - 1), _, by first | rfl | simp, by have := LX.out; omega, NX, LN2, PT⟩
      case measure => have := LX.out; simp [intOf]; omega
end Go.Proofs.YtegegfoogkpncaaDoor
