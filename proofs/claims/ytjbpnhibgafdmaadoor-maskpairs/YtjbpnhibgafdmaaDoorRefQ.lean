/-
  The document's quarter round of four places of a state: offertoryref04.Quarter.
-/
import Derived.Test.YtjbpnhibgafdmaaDoorQuart
import Derived.Test.YtjbpnhibgafdmaaDoorSsaOps
import Derived.Test.YtjbpnhibgafdmaaDoorRound
import Derived.Laws.Rows
import Derived.Test.YtjbpnhibgafdmaaDoorWhole
namespace Go.Proofs.YtjbpnhibgafdmaaDoor
open Go.RowKit Cha
set_option linter.unusedVariables false

theorem Ssa.run_add32 {P : Program} {o : Oper} {ρ : Operand → Value} {x y : Operand} {t u : TypeId} {a b : Nat} (ho : o.op = .binOp .add t x y u) (hx : ρ x = .int .u32 (a : Nat)) (hy : ρ y = .int .u32 (b : Nat)) (w : World) :
    (execOp ρ o).run P w = .ok (.value (.int .u32 (add a b : Nat))) w := by
  unfold execOp
  simp only [ho, hx, hy]
  simp [go_sem, eqGuard]
  rw [IntKind.wrap_u32']
  unfold add; omega
theorem Ssa.run_xor32 {P : Program} {o : Oper} {ρ : Operand → Value} {x y : Operand} {t u : TypeId} {a b : Nat} (ho : o.op = .binOp .xor t x y u) (hx : ρ x = .int .u32 (a : Nat)) (hy : ρ y = .int .u32 (b : Nat)) (ha : a < 4294967296) (hb : b < 4294967296) (w : World) :
    (execOp ρ o).run P w = .ok (.value (.int .u32 (a ^^^ b : Nat))) w := by
  unfold execOp
  simp only [ho, hx, hy]
  simp [go_sem, eqGuard]
  exact u32_xor_nat a b ha hb

theorem at_set_same {z : List Nat} {i v : Nat} (h : i < z.length) : at_ (z.set i v) i = v := by simp [at_, h]
theorem at_set_ne {z : List Nat} {i j v : Nat} (h : i ≠ j) : at_ (z.set i v) j = at_ z j := by simp [at_, h]

/-- The eight steps, one by one, are the quarter round. -/
theorem steps_quart {z0 z1 z2 z3 z4 z5 z6 z7 z8 : List Nat} {a b c d : Nat} (L : z0.length = 16) (A : Apart (a, b, c, d))
    (Z1 : z1 = z0.set a (add (at_ z0 a) (at_ z0 b))) (Z2 : z2 = z1.set d (rot 16 (at_ z1 d ^^^ at_ z1 a))) (Z3 : z3 = z2.set c (add (at_ z2 c) (at_ z2 d))) (Z4 : z4 = z3.set b (rot 12 (at_ z3 b ^^^ at_ z3 c)))
    (Z5 : z5 = z4.set a (add (at_ z4 a) (at_ z4 b))) (Z6 : z6 = z5.set d (rot 8 (at_ z5 d ^^^ at_ z5 a))) (Z7 : z7 = z6.set c (add (at_ z6 c) (at_ z6 d))) (Z8 : z8 = z7.set b (rot 7 (at_ z7 b ^^^ at_ z7 c))) : z8 = quart z0 a b c d := by
  obtain ⟨ha, hb, hc, hd, hab, hac, had, hbc, hbd, hcd⟩ := A
  simp only at ha hb hc hd hab hac had hbc hbd hcd
  have La : a < z0.length := by omega
  have Lb : b < z0.length := by omega
  have Lc : c < z0.length := by omega
  have Ld : d < z0.length := by omega
  have n1 : z1.length = 16 := by rw [Z1]; simpa using L
  have n2 : z2.length = 16 := by rw [Z2]; simpa using n1
  have n3 : z3.length = 16 := by rw [Z3]; simpa using n2
  have n4 : z4.length = 16 := by rw [Z4]; simpa using n3
  have n5 : z5.length = 16 := by rw [Z5]; simpa using n4
  have n6 : z6.length = 16 := by rw [Z6]; simpa using n5
  have n7 : z7.length = 16 := by rw [Z7]; simpa using n6
  have x1a : at_ z1 a = a1 (at_ z0 a) (at_ z0 b) := by rw [Z1]; exact at_set_same (by omega)
  have x1b : at_ z1 b = at_ z0 b := by rw [Z1]; exact at_set_ne hab
  have x1c : at_ z1 c = at_ z0 c := by rw [Z1]; exact at_set_ne hac
  have x1d : at_ z1 d = at_ z0 d := by rw [Z1]; exact at_set_ne had
  have x2a : at_ z2 a = a1 (at_ z0 a) (at_ z0 b) := by rw [Z2, at_set_ne (Ne.symm had), x1a]
  have x2b : at_ z2 b = at_ z0 b := by rw [Z2, at_set_ne (Ne.symm hbd), x1b]
  have x2c : at_ z2 c = at_ z0 c := by rw [Z2, at_set_ne (Ne.symm hcd), x1c]
  have x2d : at_ z2 d = d1 (at_ z0 a) (at_ z0 b) (at_ z0 d) := by rw [Z2, at_set_same (by omega), x1d, x1a]; rfl
  have x3a : at_ z3 a = a1 (at_ z0 a) (at_ z0 b) := by rw [Z3, at_set_ne (Ne.symm hac), x2a]
  have x3b : at_ z3 b = at_ z0 b := by rw [Z3, at_set_ne (Ne.symm hbc), x2b]
  have x3c : at_ z3 c = c1 (at_ z0 a) (at_ z0 b) (at_ z0 c) (at_ z0 d) := by rw [Z3, at_set_same (by omega), x2c, x2d]; rfl
  have x3d : at_ z3 d = d1 (at_ z0 a) (at_ z0 b) (at_ z0 d) := by rw [Z3, at_set_ne hcd, x2d]
  have x4a : at_ z4 a = a1 (at_ z0 a) (at_ z0 b) := by rw [Z4, at_set_ne (Ne.symm hab), x3a]
  have x4b : at_ z4 b = b1 (at_ z0 a) (at_ z0 b) (at_ z0 c) (at_ z0 d) := by rw [Z4, at_set_same (by omega), x3b, x3c]; rfl
  have x4c : at_ z4 c = c1 (at_ z0 a) (at_ z0 b) (at_ z0 c) (at_ z0 d) := by rw [Z4, at_set_ne hbc, x3c]
  have x4d : at_ z4 d = d1 (at_ z0 a) (at_ z0 b) (at_ z0 d) := by rw [Z4, at_set_ne hbd, x3d]
  have x5a : at_ z5 a = qA (at_ z0 a) (at_ z0 b) (at_ z0 c) (at_ z0 d) := by rw [Z5, at_set_same (by omega), x4a, x4b]; rfl
  have x5b : at_ z5 b = b1 (at_ z0 a) (at_ z0 b) (at_ z0 c) (at_ z0 d) := by rw [Z5, at_set_ne hab, x4b]
  have x5c : at_ z5 c = c1 (at_ z0 a) (at_ z0 b) (at_ z0 c) (at_ z0 d) := by rw [Z5, at_set_ne hac, x4c]
  have x5d : at_ z5 d = d1 (at_ z0 a) (at_ z0 b) (at_ z0 d) := by rw [Z5, at_set_ne had, x4d]
  have x6b : at_ z6 b = b1 (at_ z0 a) (at_ z0 b) (at_ z0 c) (at_ z0 d) := by rw [Z6, at_set_ne (Ne.symm hbd), x5b]
  have x6c : at_ z6 c = c1 (at_ z0 a) (at_ z0 b) (at_ z0 c) (at_ z0 d) := by rw [Z6, at_set_ne (Ne.symm hcd), x5c]
  have x6d : at_ z6 d = qD (at_ z0 a) (at_ z0 b) (at_ z0 c) (at_ z0 d) := by rw [Z6, at_set_same (by omega), x5d, x5a]; rfl
  have x7b : at_ z7 b = b1 (at_ z0 a) (at_ z0 b) (at_ z0 c) (at_ z0 d) := by rw [Z7, at_set_ne (Ne.symm hbc), x6b]
  have x7c : at_ z7 c = qC (at_ z0 a) (at_ z0 b) (at_ z0 c) (at_ z0 d) := by rw [Z7, at_set_same (by omega), x6c, x6d]; rfl
  have e8 : z8 = z7.set b (qB (at_ z0 a) (at_ z0 b) (at_ z0 c) (at_ z0 d)) := by rw [Z8, x7b, x7c]; rfl
  have e7 : z7 = z6.set c (qC (at_ z0 a) (at_ z0 b) (at_ z0 c) (at_ z0 d)) := by rw [Z7, x6c, x6d]; rfl
  have e6 : z6 = z5.set d (qD (at_ z0 a) (at_ z0 b) (at_ z0 c) (at_ z0 d)) := by rw [Z6, x5d, x5a]; rfl
  have e5 : z5 = z4.set a (qA (at_ z0 a) (at_ z0 b) (at_ z0 c) (at_ z0 d)) := by rw [Z5, x4a, x4b]; rfl
  rw [e8, e7, e6, e5, Z4, Z3, Z2, Z1]
  unfold quart
  apply List.ext_getElem?
  intro i
  simp only [List.getElem?_set, List.length_set]
  by_cases h1 : b = i
  · subst h1; simp [Ne.symm hbc, Ne.symm hbd]
  · by_cases h2 : c = i
    · subst h2; simp [h1, Ne.symm hcd]
    · by_cases h3 : d = i
      · subst h3; simp [h1, h2]
      · simp [h1, h2, h3]
        split <;> simp_all

theorem hxg {g : Nat} {t : TypeId} {V : World} {V' : List World} {l : List Nat} (R : Row V g t (nums .u32 l)) (hl : l.length = 16) (q : Nat) (hq : q < 16) (w : World) (hw : Ssa.stages (V :: V') 0 w) : w.cell? ⟨g, q, none⟩ = some (.int .u32 (at_ l q : Nat)) := by
  rw [show w = V from hw]
  refine R.cell ?_
  have hq' : q < l.length := by omega
  simp [nums, at_, hq']
theorem hsg {g : Nat} {t : TypeId} {V : World} {V' : List World} {l : List Nat} (R : Row V g t (nums .u32 l)) (hl : l.length = 16) (q : Nat) (hq : q < 16) (w : World) (hw : Ssa.stages (V :: V') 0 w) : w.cell? ⟨g, q, none⟩ = some (.int .u32 (at_ l q : Nat)) ∧ w.frozen? ⟨g, q, none⟩ = false := by
  refine ⟨hxg R hl q hq w hw, ?_⟩
  rw [show w = V from hw]
  exact R.free q

set_option maxHeartbeats 4000000 in
set_option maxRecDepth 20000 in
theorem refQuarter_any (z0 : List Nat) (L0 : z0.length = 16) (B0 : ∀ x ∈ z0, x < 4294967296) (a b c d : Nat) (A : Apart (a, b, c, d)) (w : World) :
    Calls Tryd.prog 61 #[.agg (nums .u32 z0).toArray, .int .i64 (a : Nat), .int .i64 (b : Nat), .int .i64 (c : Nat), .int .i64 (d : Nat)] w fun e w' =>
      e = .returned (.agg (nums .u32 (quart z0 a b c d)).toArray) ∧ Old w w' := by
  have HA := hide A
  have la : a < 16 := A.a
  have lb : b < 16 := A.b
  have lc : c < 16 := A.c
  have ld : d < 16 := A.d
  clear A
  have szU : (Tryd.prog.info? 41).map (·.size) = some 1 := by kernel_rfl
  obtain ⟨g, hgg⟩ : ∃ g, g = w.heap.size := ⟨_, rfl⟩
  have hg : w.heap.size ≤ g := by omega
  go_enter Tryd.func61, Tryd.ntmps61
  go_wp2_with fail
  rw [← hgg]
  obtain ⟨w0, hw0⟩ : ∃ w0, w0 = (w.alloc (.cells (nums .u32 z0).toArray 89)).alloc (.cells (nums .u32 (List.replicate 16 0)).toArray 89) := ⟨_, rfl⟩
  have K0 : Row w0 g 89 (nums .u32 z0) := by rw [hw0, hgg]; exact (Row.new w _ _).mono (Old.of_alloc _ _)
  have M0 : Row w0 (g + 1) 89 (nums .u32 (List.replicate 16 0)) := by
    rw [hw0, hgg]
    have := Row.new (w.alloc (.cells (nums .u32 z0).toArray 89)) 89 (nums .u32 (List.replicate 16 0))
    simpa using this
  have O0 : Old w w0 := by rw [hw0]; exact (Old.of_alloc _ _).alloc _
  have hw0' : _ = w0 := hw0.symm
  rw [show (w.alloc (.cells (nums .u32 z0).toArray 89)).alloc (.cells #[.int .u32 0, .int .u32 0, .int .u32 0, .int .u32 0, .int .u32 0, .int .u32 0, .int .u32 0, .int .u32 0, .int .u32 0, .int .u32 0, .int .u32 0, .int .u32 0, .int .u32 0, .int .u32 0, .int .u32 0, .int .u32 0] 89) = w0 from hw0']
  clear hw0' hw0
  obtain ⟨z1, Z1⟩ : ∃ z, z = z0.set a (add (at_ z0 a) (at_ z0 b)) := ⟨_, rfl⟩
  have L1 : z1.length = 16 := by rw [Z1]; simpa using L0
  have B1 : ∀ x ∈ z1, x < 4294967296 := by rw [Z1]; exact mem_set_lt B0 (add_lt _ _)
  obtain ⟨V1, hV1⟩ : ∃ V, V = w0.drewN 1 := ⟨_, rfl⟩
  have R1 : Row V1 g 89 (nums .u32 z0) := by rw [hV1]; exact (K0.drewN 1)
  have hx1 := hxg (V' := [V1.setCell ⟨g, a, none⟩ (.int .u32 (add (at_ z0 a) (at_ z0 b) : Nat))]) R1 L0
  have hs10 := hsg (V' := [V1.setCell ⟨g, a, none⟩ (.int .u32 (add (at_ z0 a) (at_ z0 b) : Nat))]) R1 L0 (a) (by omega)
  refine Ssa.region_put [8] [0, 1, 2, 3, 4, 5, 6, 7] [(11, .int .i64 (a : Nat)), (12, .pointer (some ⟨g, a, none⟩)), (13, .int .u32 (at_ z0 a : Nat)), (14, .int .i64 (b : Nat)), (15, .pointer (some ⟨g, b, none⟩)), (16, .int .u32 (at_ z0 b : Nat)), (17, .int .u32 (add (at_ z0 a) (at_ z0 b) : Nat)), (18, .pointer (some ⟨g, a, none⟩))] (Ssa.stages [V1, V1.setCell ⟨g, a, none⟩ (.int .u32 (add (at_ z0 a) (at_ z0 b) : Nat))]) (by kernel_rfl) (by kernel_rfl) (by kernel_rfl) hV1.symm (fun af haf => ?asked1) ?behind1
  case asked1 =>
    have f5 : af.tmps[5]? = some (.pointer (some ⟨g, 0, none⟩)) := by rw [haf]; kernel_rfl
    have f1 : af.tmps[1]? = some (.int .i64 (a : Nat)) := by rw [haf]; kernel_rfl
    have f2 : af.tmps[2]? = some (.int .i64 (b : Nat)) := by rw [haf]; kernel_rfl
    have f11 : af.tmps[11]? = some (.int .i64 (a : Nat)) := by rw [haf]; kernel_rfl
    have f12 : af.tmps[12]? = some (.pointer (some ⟨g, a, none⟩)) := by rw [haf]; kernel_rfl
    have f13 : af.tmps[13]? = some (.int .u32 (at_ z0 a : Nat)) := by rw [haf]; kernel_rfl
    have f14 : af.tmps[14]? = some (.int .i64 (b : Nat)) := by rw [haf]; kernel_rfl
    have f15 : af.tmps[15]? = some (.pointer (some ⟨g, b, none⟩)) := by rw [haf]; kernel_rfl
    have f16 : af.tmps[16]? = some (.int .u32 (at_ z0 b : Nat)) := by rw [haf]; kernel_rfl
    have f17 : af.tmps[17]? = some (.int .u32 (add (at_ z0 a) (at_ z0 b) : Nat)) := by rw [haf]; kernel_rfl
    have f18 : af.tmps[18]? = some (.pointer (some ⟨g, a, none⟩)) := by rw [haf]; kernel_rfl
    clear haf
    refine And.intro (Ssa.early_of rfl rfl (Ssa.good_of (d := 11) (.int .i64 (a : Nat)) rfl f11 fun w hw => Ssa.run_mv rfl (Ssa.ev f1) w)) ?_
    refine And.intro (Ssa.early_of rfl rfl (Ssa.good_of (d := 12) (.pointer (some ⟨g, a, none⟩)) rfl f12 fun w hw => Ssa.run_addr 89 _ _ 16 41 rfl g a (Ssa.ev f5) (Ssa.ev f11) (by omega) Tryd.underlying89 szU w)) ?_
    refine And.intro (Ssa.early_of rfl rfl (Ssa.good_of (d := 13) (.int .u32 (at_ z0 a : Nat)) rfl f13 fun w hw => Ssa.run_load 41 _ _ rfl ⟨g, a, none⟩ _ (Ssa.ev f12) Tryd.underlying41 rfl w (hx1 a (by omega) w hw))) ?_
    refine And.intro (Ssa.early_of rfl rfl (Ssa.good_of (d := 14) (.int .i64 (b : Nat)) rfl f14 fun w hw => Ssa.run_mv rfl (Ssa.ev f2) w)) ?_
    refine And.intro (Ssa.early_of rfl rfl (Ssa.good_of (d := 15) (.pointer (some ⟨g, b, none⟩)) rfl f15 fun w hw => Ssa.run_addr 89 _ _ 16 41 rfl g b (Ssa.ev f5) (Ssa.ev f14) (by omega) Tryd.underlying89 szU w)) ?_
    refine And.intro (Ssa.early_of rfl rfl (Ssa.good_of (d := 16) (.int .u32 (at_ z0 b : Nat)) rfl f16 fun w hw => Ssa.run_load 41 _ _ rfl ⟨g, b, none⟩ _ (Ssa.ev f15) Tryd.underlying41 rfl w (hx1 b (by omega) w hw))) ?_
    refine And.intro (Ssa.early_of rfl rfl (Ssa.good_of (d := 17) (.int .u32 (add (at_ z0 a) (at_ z0 b) : Nat)) rfl f17 fun w hw => Ssa.run_add32 rfl (Ssa.ev f13) (Ssa.ev f16) w)) ?_
    refine And.intro (Ssa.early_of rfl rfl (Ssa.good_of (d := 18) (.pointer (some ⟨g, a, none⟩)) rfl f18 fun w hw => Ssa.run_addr 89 _ _ 16 41 rfl g a (Ssa.ev f5) (Ssa.ev f11) (by omega) Tryd.underlying89 szU w)) ?_
    refine And.intro (Ssa.store_of 0 rfl rfl (Ssa.good_store 41 _ _ rfl rfl ⟨g, a, none⟩ .u32 (add (at_ z0 a) (at_ z0 b) : Nat) _ (Ssa.ev f18) (Ssa.ev f17) szU hs10 (fun w hw => congrArg (fun w => World.setCell w ⟨g, a, none⟩ (.int .u32 (add (at_ z0 a) (at_ z0 b) : Nat))) hw))) ?_
    exact trivial
  case behind1 =>
  rintro w1 h1
  have K1 : Row w1 g 89 (nums .u32 z1) := by
    rw [show w1 = _ from h1, Z1, ← nums_set]; exact R1.set _ _
  have M1 : Row w1 (g + 1) 89 (nums .u32 (List.replicate 16 0)) := by
    rw [show w1 = _ from h1, hV1]; exact (M0.drewN 1).grown (grown_set _ _ _ _) (by omega)
  have O1 : Old w w1 := by
    rw [show w1 = _ from h1, hV1]; exact (O0.drewN 1).grown (grown_set _ _ _ _) hg
  clear h1 hx1 hs10 R1 hV1 M0 O0 K0
  have Y1 := hide Z1
  clear Z1
  simp only [Ssa.putAll, List.foldl_cons, List.foldl_nil, List.setIfInBounds_toArray, List.set_cons_succ, List.set_cons_zero]
  go_wp2_with fail
  obtain ⟨z2, Z2⟩ : ∃ z, z = z1.set d (rot 16 ((at_ z1 d) ^^^ (at_ z1 a))) := ⟨_, rfl⟩
  have L2 : z2.length = 16 := by rw [Z2]; simpa using L1
  have B2 : ∀ x ∈ z2, x < 4294967296 := by rw [Z2]; exact mem_set_lt B1 (rot16_lt (xor_lt (at_lt B1 _) (at_lt B1 _)))
  obtain ⟨V2, hV2⟩ : ∃ V, V = w1.drewN 1 := ⟨_, rfl⟩
  have R2 : Row V2 g 89 (nums .u32 z1) := by rw [hV2]; exact (K1.drewN 1)
  have hx2 := hxg (V' := [V2.setCell ⟨g, d, none⟩ (.int .u32 (rot 16 ((at_ z1 d) ^^^ (at_ z1 a)) : Nat))]) R2 L1
  have hs20 := hsg (V' := [V2.setCell ⟨g, d, none⟩ (.int .u32 (rot 16 ((at_ z1 d) ^^^ (at_ z1 a)) : Nat))]) R2 L1 (d) (by omega)
  refine Ssa.region_put [10] [0, 1, 2, 3, 4, 5, 6, 7, 8, 9] [(19, .int .i64 (d : Nat)), (20, .int .i64 (d : Nat)), (21, .pointer (some ⟨g, d, none⟩)), (22, .int .u32 (at_ z1 d : Nat)), (23, .int .i64 (a : Nat)), (24, .pointer (some ⟨g, a, none⟩)), (25, .int .u32 (at_ z1 a : Nat)), (26, .int .u32 ((at_ z1 d) ^^^ (at_ z1 a) : Nat)), (27, .int .u32 (rot 16 ((at_ z1 d) ^^^ (at_ z1 a)) : Nat)), (28, .pointer (some ⟨g, d, none⟩))] (Ssa.stages [V2, V2.setCell ⟨g, d, none⟩ (.int .u32 (rot 16 ((at_ z1 d) ^^^ (at_ z1 a)) : Nat))]) (by kernel_rfl) (by kernel_rfl) (by kernel_rfl) hV2.symm (fun af haf => ?asked2) ?behind2
  case asked2 =>
    have f5 : af.tmps[5]? = some (.pointer (some ⟨g, 0, none⟩)) := by rw [haf]; kernel_rfl
    have f1 : af.tmps[1]? = some (.int .i64 (a : Nat)) := by rw [haf]; kernel_rfl
    have f4 : af.tmps[4]? = some (.int .i64 (d : Nat)) := by rw [haf]; kernel_rfl
    have f19 : af.tmps[19]? = some (.int .i64 (d : Nat)) := by rw [haf]; kernel_rfl
    have f20 : af.tmps[20]? = some (.int .i64 (d : Nat)) := by rw [haf]; kernel_rfl
    have f21 : af.tmps[21]? = some (.pointer (some ⟨g, d, none⟩)) := by rw [haf]; kernel_rfl
    have f22 : af.tmps[22]? = some (.int .u32 (at_ z1 d : Nat)) := by rw [haf]; kernel_rfl
    have f23 : af.tmps[23]? = some (.int .i64 (a : Nat)) := by rw [haf]; kernel_rfl
    have f24 : af.tmps[24]? = some (.pointer (some ⟨g, a, none⟩)) := by rw [haf]; kernel_rfl
    have f25 : af.tmps[25]? = some (.int .u32 (at_ z1 a : Nat)) := by rw [haf]; kernel_rfl
    have f26 : af.tmps[26]? = some (.int .u32 ((at_ z1 d) ^^^ (at_ z1 a) : Nat)) := by rw [haf]; kernel_rfl
    have f27 : af.tmps[27]? = some (.int .u32 (rot 16 ((at_ z1 d) ^^^ (at_ z1 a)) : Nat)) := by rw [haf]; kernel_rfl
    have f28 : af.tmps[28]? = some (.pointer (some ⟨g, d, none⟩)) := by rw [haf]; kernel_rfl
    clear haf
    refine And.intro (Ssa.early_of rfl rfl (Ssa.good_of (d := 19) (.int .i64 (d : Nat)) rfl f19 fun w hw => Ssa.run_mv rfl (Ssa.ev f4) w)) ?_
    refine And.intro (Ssa.early_of rfl rfl (Ssa.good_of (d := 20) (.int .i64 (d : Nat)) rfl f20 fun w hw => Ssa.run_mv rfl (Ssa.ev f4) w)) ?_
    refine And.intro (Ssa.early_of rfl rfl (Ssa.good_of (d := 21) (.pointer (some ⟨g, d, none⟩)) rfl f21 fun w hw => Ssa.run_addr 89 _ _ 16 41 rfl g d (Ssa.ev f5) (Ssa.ev f20) (by omega) Tryd.underlying89 szU w)) ?_
    refine And.intro (Ssa.early_of rfl rfl (Ssa.good_of (d := 22) (.int .u32 (at_ z1 d : Nat)) rfl f22 fun w hw => Ssa.run_load 41 _ _ rfl ⟨g, d, none⟩ _ (Ssa.ev f21) Tryd.underlying41 rfl w (hx2 d (by omega) w hw))) ?_
    refine And.intro (Ssa.early_of rfl rfl (Ssa.good_of (d := 23) (.int .i64 (a : Nat)) rfl f23 fun w hw => Ssa.run_mv rfl (Ssa.ev f1) w)) ?_
    refine And.intro (Ssa.early_of rfl rfl (Ssa.good_of (d := 24) (.pointer (some ⟨g, a, none⟩)) rfl f24 fun w hw => Ssa.run_addr 89 _ _ 16 41 rfl g a (Ssa.ev f5) (Ssa.ev f23) (by omega) Tryd.underlying89 szU w)) ?_
    refine And.intro (Ssa.early_of rfl rfl (Ssa.good_of (d := 25) (.int .u32 (at_ z1 a : Nat)) rfl f25 fun w hw => Ssa.run_load 41 _ _ rfl ⟨g, a, none⟩ _ (Ssa.ev f24) Tryd.underlying41 rfl w (hx2 a (by omega) w hw))) ?_
    refine And.intro (Ssa.early_of rfl rfl (Ssa.good_of (d := 26) (.int .u32 ((at_ z1 d) ^^^ (at_ z1 a) : Nat)) rfl f26 fun w hw => Ssa.run_xor32 rfl (Ssa.ev f22) (Ssa.ev f25) (at_lt B1 _) (at_lt B1 _) w)) ?_
    refine And.intro (Ssa.early_of rfl rfl (Ssa.good_call (d := 27) (.int .u32 (rot 16 ((at_ z1 d) ^^^ (at_ z1 a)) : Nat)) 65 #[.int .u32 ((at_ z1 d) ^^^ (at_ z1 a) : Nat), .int .u64 16] rfl f27 (by intro w; simp [f26, go_sem]) fun w hw => turn16_any _ _ rfl (xor_lt (at_lt B1 _) (at_lt B1 _)) w)) ?_
    refine And.intro (Ssa.early_of rfl rfl (Ssa.good_of (d := 28) (.pointer (some ⟨g, d, none⟩)) rfl f28 fun w hw => Ssa.run_addr 89 _ _ 16 41 rfl g d (Ssa.ev f5) (Ssa.ev f19) (by omega) Tryd.underlying89 szU w)) ?_
    refine And.intro (Ssa.store_of 0 rfl rfl (Ssa.good_store 41 _ _ rfl rfl ⟨g, d, none⟩ .u32 (rot 16 ((at_ z1 d) ^^^ (at_ z1 a)) : Nat) _ (Ssa.ev f28) (Ssa.ev f27) szU hs20 (fun w hw => congrArg (fun w => World.setCell w ⟨g, d, none⟩ (.int .u32 (rot 16 ((at_ z1 d) ^^^ (at_ z1 a)) : Nat))) hw))) ?_
    exact trivial
  case behind2 =>
  rintro w2 h2
  have K2 : Row w2 g 89 (nums .u32 z2) := by
    rw [show w2 = _ from h2, Z2, ← nums_set]; exact R2.set _ _
  have M2 : Row w2 (g + 1) 89 (nums .u32 (List.replicate 16 0)) := by
    rw [show w2 = _ from h2, hV2]; exact (M1.drewN 1).grown (grown_set _ _ _ _) (by omega)
  have O2 : Old w w2 := by
    rw [show w2 = _ from h2, hV2]; exact (O1.drewN 1).grown (grown_set _ _ _ _) hg
  clear h2 hx2 hs20 R2 hV2 M1 O1 K1
  have Y2 := hide Z2
  clear Z2
  simp only [Ssa.putAll, List.foldl_cons, List.foldl_nil, List.setIfInBounds_toArray, List.set_cons_succ, List.set_cons_zero]
  go_wp2_with fail
  obtain ⟨z3, Z3⟩ : ∃ z, z = z2.set c (add (at_ z2 c) (at_ z2 d)) := ⟨_, rfl⟩
  have L3 : z3.length = 16 := by rw [Z3]; simpa using L2
  have B3 : ∀ x ∈ z3, x < 4294967296 := by rw [Z3]; exact mem_set_lt B2 (add_lt _ _)
  obtain ⟨V3, hV3⟩ : ∃ V, V = w2.drewN 1 := ⟨_, rfl⟩
  have R3 : Row V3 g 89 (nums .u32 z2) := by rw [hV3]; exact (K2.drewN 1)
  have hx3 := hxg (V' := [V3.setCell ⟨g, c, none⟩ (.int .u32 (add (at_ z2 c) (at_ z2 d) : Nat))]) R3 L2
  have hs30 := hsg (V' := [V3.setCell ⟨g, c, none⟩ (.int .u32 (add (at_ z2 c) (at_ z2 d) : Nat))]) R3 L2 (c) (by omega)
  refine Ssa.region_put [8] [0, 1, 2, 3, 4, 5, 6, 7] [(29, .int .i64 (c : Nat)), (30, .pointer (some ⟨g, c, none⟩)), (31, .int .u32 (at_ z2 c : Nat)), (32, .int .i64 (d : Nat)), (33, .pointer (some ⟨g, d, none⟩)), (34, .int .u32 (at_ z2 d : Nat)), (35, .int .u32 (add (at_ z2 c) (at_ z2 d) : Nat)), (36, .pointer (some ⟨g, c, none⟩))] (Ssa.stages [V3, V3.setCell ⟨g, c, none⟩ (.int .u32 (add (at_ z2 c) (at_ z2 d) : Nat))]) (by kernel_rfl) (by kernel_rfl) (by kernel_rfl) hV3.symm (fun af haf => ?asked3) ?behind3
  case asked3 =>
    have f5 : af.tmps[5]? = some (.pointer (some ⟨g, 0, none⟩)) := by rw [haf]; kernel_rfl
    have f3 : af.tmps[3]? = some (.int .i64 (c : Nat)) := by rw [haf]; kernel_rfl
    have f4 : af.tmps[4]? = some (.int .i64 (d : Nat)) := by rw [haf]; kernel_rfl
    have f29 : af.tmps[29]? = some (.int .i64 (c : Nat)) := by rw [haf]; kernel_rfl
    have f30 : af.tmps[30]? = some (.pointer (some ⟨g, c, none⟩)) := by rw [haf]; kernel_rfl
    have f31 : af.tmps[31]? = some (.int .u32 (at_ z2 c : Nat)) := by rw [haf]; kernel_rfl
    have f32 : af.tmps[32]? = some (.int .i64 (d : Nat)) := by rw [haf]; kernel_rfl
    have f33 : af.tmps[33]? = some (.pointer (some ⟨g, d, none⟩)) := by rw [haf]; kernel_rfl
    have f34 : af.tmps[34]? = some (.int .u32 (at_ z2 d : Nat)) := by rw [haf]; kernel_rfl
    have f35 : af.tmps[35]? = some (.int .u32 (add (at_ z2 c) (at_ z2 d) : Nat)) := by rw [haf]; kernel_rfl
    have f36 : af.tmps[36]? = some (.pointer (some ⟨g, c, none⟩)) := by rw [haf]; kernel_rfl
    clear haf
    refine And.intro (Ssa.early_of rfl rfl (Ssa.good_of (d := 29) (.int .i64 (c : Nat)) rfl f29 fun w hw => Ssa.run_mv rfl (Ssa.ev f3) w)) ?_
    refine And.intro (Ssa.early_of rfl rfl (Ssa.good_of (d := 30) (.pointer (some ⟨g, c, none⟩)) rfl f30 fun w hw => Ssa.run_addr 89 _ _ 16 41 rfl g c (Ssa.ev f5) (Ssa.ev f29) (by omega) Tryd.underlying89 szU w)) ?_
    refine And.intro (Ssa.early_of rfl rfl (Ssa.good_of (d := 31) (.int .u32 (at_ z2 c : Nat)) rfl f31 fun w hw => Ssa.run_load 41 _ _ rfl ⟨g, c, none⟩ _ (Ssa.ev f30) Tryd.underlying41 rfl w (hx3 c (by omega) w hw))) ?_
    refine And.intro (Ssa.early_of rfl rfl (Ssa.good_of (d := 32) (.int .i64 (d : Nat)) rfl f32 fun w hw => Ssa.run_mv rfl (Ssa.ev f4) w)) ?_
    refine And.intro (Ssa.early_of rfl rfl (Ssa.good_of (d := 33) (.pointer (some ⟨g, d, none⟩)) rfl f33 fun w hw => Ssa.run_addr 89 _ _ 16 41 rfl g d (Ssa.ev f5) (Ssa.ev f32) (by omega) Tryd.underlying89 szU w)) ?_
    refine And.intro (Ssa.early_of rfl rfl (Ssa.good_of (d := 34) (.int .u32 (at_ z2 d : Nat)) rfl f34 fun w hw => Ssa.run_load 41 _ _ rfl ⟨g, d, none⟩ _ (Ssa.ev f33) Tryd.underlying41 rfl w (hx3 d (by omega) w hw))) ?_
    refine And.intro (Ssa.early_of rfl rfl (Ssa.good_of (d := 35) (.int .u32 (add (at_ z2 c) (at_ z2 d) : Nat)) rfl f35 fun w hw => Ssa.run_add32 rfl (Ssa.ev f31) (Ssa.ev f34) w)) ?_
    refine And.intro (Ssa.early_of rfl rfl (Ssa.good_of (d := 36) (.pointer (some ⟨g, c, none⟩)) rfl f36 fun w hw => Ssa.run_addr 89 _ _ 16 41 rfl g c (Ssa.ev f5) (Ssa.ev f29) (by omega) Tryd.underlying89 szU w)) ?_
    refine And.intro (Ssa.store_of 0 rfl rfl (Ssa.good_store 41 _ _ rfl rfl ⟨g, c, none⟩ .u32 (add (at_ z2 c) (at_ z2 d) : Nat) _ (Ssa.ev f36) (Ssa.ev f35) szU hs30 (fun w hw => congrArg (fun w => World.setCell w ⟨g, c, none⟩ (.int .u32 (add (at_ z2 c) (at_ z2 d) : Nat))) hw))) ?_
    exact trivial
  case behind3 =>
  rintro w3 h3
  have K3 : Row w3 g 89 (nums .u32 z3) := by
    rw [show w3 = _ from h3, Z3, ← nums_set]; exact R3.set _ _
  have M3 : Row w3 (g + 1) 89 (nums .u32 (List.replicate 16 0)) := by
    rw [show w3 = _ from h3, hV3]; exact (M2.drewN 1).grown (grown_set _ _ _ _) (by omega)
  have O3 : Old w w3 := by
    rw [show w3 = _ from h3, hV3]; exact (O2.drewN 1).grown (grown_set _ _ _ _) hg
  clear h3 hx3 hs30 R3 hV3 M2 O2 K2
  have Y3 := hide Z3
  clear Z3
  simp only [Ssa.putAll, List.foldl_cons, List.foldl_nil, List.setIfInBounds_toArray, List.set_cons_succ, List.set_cons_zero]
  go_wp2_with fail
  obtain ⟨z4, Z4⟩ : ∃ z, z = z3.set b (rot 12 ((at_ z3 b) ^^^ (at_ z3 c))) := ⟨_, rfl⟩
  have L4 : z4.length = 16 := by rw [Z4]; simpa using L3
  have B4 : ∀ x ∈ z4, x < 4294967296 := by rw [Z4]; exact mem_set_lt B3 (rot12_lt (xor_lt (at_lt B3 _) (at_lt B3 _)))
  obtain ⟨V4, hV4⟩ : ∃ V, V = w3.drewN 1 := ⟨_, rfl⟩
  have R4 : Row V4 g 89 (nums .u32 z3) := by rw [hV4]; exact (K3.drewN 1)
  have hx4 := hxg (V' := [V4.setCell ⟨g, b, none⟩ (.int .u32 (rot 12 ((at_ z3 b) ^^^ (at_ z3 c)) : Nat))]) R4 L3
  have hs40 := hsg (V' := [V4.setCell ⟨g, b, none⟩ (.int .u32 (rot 12 ((at_ z3 b) ^^^ (at_ z3 c)) : Nat))]) R4 L3 (b) (by omega)
  refine Ssa.region_put [10] [0, 1, 2, 3, 4, 5, 6, 7, 8, 9] [(37, .int .i64 (b : Nat)), (38, .int .i64 (b : Nat)), (39, .pointer (some ⟨g, b, none⟩)), (40, .int .u32 (at_ z3 b : Nat)), (41, .int .i64 (c : Nat)), (42, .pointer (some ⟨g, c, none⟩)), (43, .int .u32 (at_ z3 c : Nat)), (44, .int .u32 ((at_ z3 b) ^^^ (at_ z3 c) : Nat)), (45, .int .u32 (rot 12 ((at_ z3 b) ^^^ (at_ z3 c)) : Nat)), (46, .pointer (some ⟨g, b, none⟩))] (Ssa.stages [V4, V4.setCell ⟨g, b, none⟩ (.int .u32 (rot 12 ((at_ z3 b) ^^^ (at_ z3 c)) : Nat))]) (by kernel_rfl) (by kernel_rfl) (by kernel_rfl) hV4.symm (fun af haf => ?asked4) ?behind4
  case asked4 =>
    have f5 : af.tmps[5]? = some (.pointer (some ⟨g, 0, none⟩)) := by rw [haf]; kernel_rfl
    have f2 : af.tmps[2]? = some (.int .i64 (b : Nat)) := by rw [haf]; kernel_rfl
    have f3 : af.tmps[3]? = some (.int .i64 (c : Nat)) := by rw [haf]; kernel_rfl
    have f37 : af.tmps[37]? = some (.int .i64 (b : Nat)) := by rw [haf]; kernel_rfl
    have f38 : af.tmps[38]? = some (.int .i64 (b : Nat)) := by rw [haf]; kernel_rfl
    have f39 : af.tmps[39]? = some (.pointer (some ⟨g, b, none⟩)) := by rw [haf]; kernel_rfl
    have f40 : af.tmps[40]? = some (.int .u32 (at_ z3 b : Nat)) := by rw [haf]; kernel_rfl
    have f41 : af.tmps[41]? = some (.int .i64 (c : Nat)) := by rw [haf]; kernel_rfl
    have f42 : af.tmps[42]? = some (.pointer (some ⟨g, c, none⟩)) := by rw [haf]; kernel_rfl
    have f43 : af.tmps[43]? = some (.int .u32 (at_ z3 c : Nat)) := by rw [haf]; kernel_rfl
    have f44 : af.tmps[44]? = some (.int .u32 ((at_ z3 b) ^^^ (at_ z3 c) : Nat)) := by rw [haf]; kernel_rfl
    have f45 : af.tmps[45]? = some (.int .u32 (rot 12 ((at_ z3 b) ^^^ (at_ z3 c)) : Nat)) := by rw [haf]; kernel_rfl
    have f46 : af.tmps[46]? = some (.pointer (some ⟨g, b, none⟩)) := by rw [haf]; kernel_rfl
    clear haf
    refine And.intro (Ssa.early_of rfl rfl (Ssa.good_of (d := 37) (.int .i64 (b : Nat)) rfl f37 fun w hw => Ssa.run_mv rfl (Ssa.ev f2) w)) ?_
    refine And.intro (Ssa.early_of rfl rfl (Ssa.good_of (d := 38) (.int .i64 (b : Nat)) rfl f38 fun w hw => Ssa.run_mv rfl (Ssa.ev f2) w)) ?_
    refine And.intro (Ssa.early_of rfl rfl (Ssa.good_of (d := 39) (.pointer (some ⟨g, b, none⟩)) rfl f39 fun w hw => Ssa.run_addr 89 _ _ 16 41 rfl g b (Ssa.ev f5) (Ssa.ev f38) (by omega) Tryd.underlying89 szU w)) ?_
    refine And.intro (Ssa.early_of rfl rfl (Ssa.good_of (d := 40) (.int .u32 (at_ z3 b : Nat)) rfl f40 fun w hw => Ssa.run_load 41 _ _ rfl ⟨g, b, none⟩ _ (Ssa.ev f39) Tryd.underlying41 rfl w (hx4 b (by omega) w hw))) ?_
    refine And.intro (Ssa.early_of rfl rfl (Ssa.good_of (d := 41) (.int .i64 (c : Nat)) rfl f41 fun w hw => Ssa.run_mv rfl (Ssa.ev f3) w)) ?_
    refine And.intro (Ssa.early_of rfl rfl (Ssa.good_of (d := 42) (.pointer (some ⟨g, c, none⟩)) rfl f42 fun w hw => Ssa.run_addr 89 _ _ 16 41 rfl g c (Ssa.ev f5) (Ssa.ev f41) (by omega) Tryd.underlying89 szU w)) ?_
    refine And.intro (Ssa.early_of rfl rfl (Ssa.good_of (d := 43) (.int .u32 (at_ z3 c : Nat)) rfl f43 fun w hw => Ssa.run_load 41 _ _ rfl ⟨g, c, none⟩ _ (Ssa.ev f42) Tryd.underlying41 rfl w (hx4 c (by omega) w hw))) ?_
    refine And.intro (Ssa.early_of rfl rfl (Ssa.good_of (d := 44) (.int .u32 ((at_ z3 b) ^^^ (at_ z3 c) : Nat)) rfl f44 fun w hw => Ssa.run_xor32 rfl (Ssa.ev f40) (Ssa.ev f43) (at_lt B3 _) (at_lt B3 _) w)) ?_
    refine And.intro (Ssa.early_of rfl rfl (Ssa.good_call (d := 45) (.int .u32 (rot 12 ((at_ z3 b) ^^^ (at_ z3 c)) : Nat)) 65 #[.int .u32 ((at_ z3 b) ^^^ (at_ z3 c) : Nat), .int .u64 12] rfl f45 (by intro w; simp [f44, go_sem]) fun w hw => turn12_any _ _ rfl (xor_lt (at_lt B3 _) (at_lt B3 _)) w)) ?_
    refine And.intro (Ssa.early_of rfl rfl (Ssa.good_of (d := 46) (.pointer (some ⟨g, b, none⟩)) rfl f46 fun w hw => Ssa.run_addr 89 _ _ 16 41 rfl g b (Ssa.ev f5) (Ssa.ev f37) (by omega) Tryd.underlying89 szU w)) ?_
    refine And.intro (Ssa.store_of 0 rfl rfl (Ssa.good_store 41 _ _ rfl rfl ⟨g, b, none⟩ .u32 (rot 12 ((at_ z3 b) ^^^ (at_ z3 c)) : Nat) _ (Ssa.ev f46) (Ssa.ev f45) szU hs40 (fun w hw => congrArg (fun w => World.setCell w ⟨g, b, none⟩ (.int .u32 (rot 12 ((at_ z3 b) ^^^ (at_ z3 c)) : Nat))) hw))) ?_
    exact trivial
  case behind4 =>
  rintro w4 h4
  have K4 : Row w4 g 89 (nums .u32 z4) := by
    rw [show w4 = _ from h4, Z4, ← nums_set]; exact R4.set _ _
  have M4 : Row w4 (g + 1) 89 (nums .u32 (List.replicate 16 0)) := by
    rw [show w4 = _ from h4, hV4]; exact (M3.drewN 1).grown (grown_set _ _ _ _) (by omega)
  have O4 : Old w w4 := by
    rw [show w4 = _ from h4, hV4]; exact (O3.drewN 1).grown (grown_set _ _ _ _) hg
  clear h4 hx4 hs40 R4 hV4 M3 O3 K3
  have Y4 := hide Z4
  clear Z4
  simp only [Ssa.putAll, List.foldl_cons, List.foldl_nil, List.setIfInBounds_toArray, List.set_cons_succ, List.set_cons_zero]
  go_wp2_with fail
  obtain ⟨z5, Z5⟩ : ∃ z, z = z4.set a (add (at_ z4 a) (at_ z4 b)) := ⟨_, rfl⟩
  have L5 : z5.length = 16 := by rw [Z5]; simpa using L4
  have B5 : ∀ x ∈ z5, x < 4294967296 := by rw [Z5]; exact mem_set_lt B4 (add_lt _ _)
  obtain ⟨V5, hV5⟩ : ∃ V, V = w4.drewN 1 := ⟨_, rfl⟩
  have R5 : Row V5 g 89 (nums .u32 z4) := by rw [hV5]; exact (K4.drewN 1)
  have hx5 := hxg (V' := [V5.setCell ⟨g, a, none⟩ (.int .u32 (add (at_ z4 a) (at_ z4 b) : Nat))]) R5 L4
  have hs50 := hsg (V' := [V5.setCell ⟨g, a, none⟩ (.int .u32 (add (at_ z4 a) (at_ z4 b) : Nat))]) R5 L4 (a) (by omega)
  refine Ssa.region_put [8] [0, 1, 2, 3, 4, 5, 6, 7] [(47, .int .i64 (a : Nat)), (48, .pointer (some ⟨g, a, none⟩)), (49, .int .u32 (at_ z4 a : Nat)), (50, .int .i64 (b : Nat)), (51, .pointer (some ⟨g, b, none⟩)), (52, .int .u32 (at_ z4 b : Nat)), (53, .int .u32 (add (at_ z4 a) (at_ z4 b) : Nat)), (54, .pointer (some ⟨g, a, none⟩))] (Ssa.stages [V5, V5.setCell ⟨g, a, none⟩ (.int .u32 (add (at_ z4 a) (at_ z4 b) : Nat))]) (by kernel_rfl) (by kernel_rfl) (by kernel_rfl) hV5.symm (fun af haf => ?asked5) ?behind5
  case asked5 =>
    have f5 : af.tmps[5]? = some (.pointer (some ⟨g, 0, none⟩)) := by rw [haf]; kernel_rfl
    have f1 : af.tmps[1]? = some (.int .i64 (a : Nat)) := by rw [haf]; kernel_rfl
    have f2 : af.tmps[2]? = some (.int .i64 (b : Nat)) := by rw [haf]; kernel_rfl
    have f47 : af.tmps[47]? = some (.int .i64 (a : Nat)) := by rw [haf]; kernel_rfl
    have f48 : af.tmps[48]? = some (.pointer (some ⟨g, a, none⟩)) := by rw [haf]; kernel_rfl
    have f49 : af.tmps[49]? = some (.int .u32 (at_ z4 a : Nat)) := by rw [haf]; kernel_rfl
    have f50 : af.tmps[50]? = some (.int .i64 (b : Nat)) := by rw [haf]; kernel_rfl
    have f51 : af.tmps[51]? = some (.pointer (some ⟨g, b, none⟩)) := by rw [haf]; kernel_rfl
    have f52 : af.tmps[52]? = some (.int .u32 (at_ z4 b : Nat)) := by rw [haf]; kernel_rfl
    have f53 : af.tmps[53]? = some (.int .u32 (add (at_ z4 a) (at_ z4 b) : Nat)) := by rw [haf]; kernel_rfl
    have f54 : af.tmps[54]? = some (.pointer (some ⟨g, a, none⟩)) := by rw [haf]; kernel_rfl
    clear haf
    refine And.intro (Ssa.early_of rfl rfl (Ssa.good_of (d := 47) (.int .i64 (a : Nat)) rfl f47 fun w hw => Ssa.run_mv rfl (Ssa.ev f1) w)) ?_
    refine And.intro (Ssa.early_of rfl rfl (Ssa.good_of (d := 48) (.pointer (some ⟨g, a, none⟩)) rfl f48 fun w hw => Ssa.run_addr 89 _ _ 16 41 rfl g a (Ssa.ev f5) (Ssa.ev f47) (by omega) Tryd.underlying89 szU w)) ?_
    refine And.intro (Ssa.early_of rfl rfl (Ssa.good_of (d := 49) (.int .u32 (at_ z4 a : Nat)) rfl f49 fun w hw => Ssa.run_load 41 _ _ rfl ⟨g, a, none⟩ _ (Ssa.ev f48) Tryd.underlying41 rfl w (hx5 a (by omega) w hw))) ?_
    refine And.intro (Ssa.early_of rfl rfl (Ssa.good_of (d := 50) (.int .i64 (b : Nat)) rfl f50 fun w hw => Ssa.run_mv rfl (Ssa.ev f2) w)) ?_
    refine And.intro (Ssa.early_of rfl rfl (Ssa.good_of (d := 51) (.pointer (some ⟨g, b, none⟩)) rfl f51 fun w hw => Ssa.run_addr 89 _ _ 16 41 rfl g b (Ssa.ev f5) (Ssa.ev f50) (by omega) Tryd.underlying89 szU w)) ?_
    refine And.intro (Ssa.early_of rfl rfl (Ssa.good_of (d := 52) (.int .u32 (at_ z4 b : Nat)) rfl f52 fun w hw => Ssa.run_load 41 _ _ rfl ⟨g, b, none⟩ _ (Ssa.ev f51) Tryd.underlying41 rfl w (hx5 b (by omega) w hw))) ?_
    refine And.intro (Ssa.early_of rfl rfl (Ssa.good_of (d := 53) (.int .u32 (add (at_ z4 a) (at_ z4 b) : Nat)) rfl f53 fun w hw => Ssa.run_add32 rfl (Ssa.ev f49) (Ssa.ev f52) w)) ?_
    refine And.intro (Ssa.early_of rfl rfl (Ssa.good_of (d := 54) (.pointer (some ⟨g, a, none⟩)) rfl f54 fun w hw => Ssa.run_addr 89 _ _ 16 41 rfl g a (Ssa.ev f5) (Ssa.ev f47) (by omega) Tryd.underlying89 szU w)) ?_
    refine And.intro (Ssa.store_of 0 rfl rfl (Ssa.good_store 41 _ _ rfl rfl ⟨g, a, none⟩ .u32 (add (at_ z4 a) (at_ z4 b) : Nat) _ (Ssa.ev f54) (Ssa.ev f53) szU hs50 (fun w hw => congrArg (fun w => World.setCell w ⟨g, a, none⟩ (.int .u32 (add (at_ z4 a) (at_ z4 b) : Nat))) hw))) ?_
    exact trivial
  case behind5 =>
  rintro w5 h5
  have K5 : Row w5 g 89 (nums .u32 z5) := by
    rw [show w5 = _ from h5, Z5, ← nums_set]; exact R5.set _ _
  have M5 : Row w5 (g + 1) 89 (nums .u32 (List.replicate 16 0)) := by
    rw [show w5 = _ from h5, hV5]; exact (M4.drewN 1).grown (grown_set _ _ _ _) (by omega)
  have O5 : Old w w5 := by
    rw [show w5 = _ from h5, hV5]; exact (O4.drewN 1).grown (grown_set _ _ _ _) hg
  clear h5 hx5 hs50 R5 hV5 M4 O4 K4
  have Y5 := hide Z5
  clear Z5
  simp only [Ssa.putAll, List.foldl_cons, List.foldl_nil, List.setIfInBounds_toArray, List.set_cons_succ, List.set_cons_zero]
  go_wp2_with fail
  obtain ⟨z6, Z6⟩ : ∃ z, z = z5.set d (rot 8 ((at_ z5 d) ^^^ (at_ z5 a))) := ⟨_, rfl⟩
  have L6 : z6.length = 16 := by rw [Z6]; simpa using L5
  have B6 : ∀ x ∈ z6, x < 4294967296 := by rw [Z6]; exact mem_set_lt B5 (rot8_lt (xor_lt (at_lt B5 _) (at_lt B5 _)))
  obtain ⟨V6, hV6⟩ : ∃ V, V = w5.drewN 1 := ⟨_, rfl⟩
  have R6 : Row V6 g 89 (nums .u32 z5) := by rw [hV6]; exact (K5.drewN 1)
  have hx6 := hxg (V' := [V6.setCell ⟨g, d, none⟩ (.int .u32 (rot 8 ((at_ z5 d) ^^^ (at_ z5 a)) : Nat))]) R6 L5
  have hs60 := hsg (V' := [V6.setCell ⟨g, d, none⟩ (.int .u32 (rot 8 ((at_ z5 d) ^^^ (at_ z5 a)) : Nat))]) R6 L5 (d) (by omega)
  refine Ssa.region_put [10] [0, 1, 2, 3, 4, 5, 6, 7, 8, 9] [(55, .int .i64 (d : Nat)), (56, .int .i64 (d : Nat)), (57, .pointer (some ⟨g, d, none⟩)), (58, .int .u32 (at_ z5 d : Nat)), (59, .int .i64 (a : Nat)), (60, .pointer (some ⟨g, a, none⟩)), (61, .int .u32 (at_ z5 a : Nat)), (62, .int .u32 ((at_ z5 d) ^^^ (at_ z5 a) : Nat)), (63, .int .u32 (rot 8 ((at_ z5 d) ^^^ (at_ z5 a)) : Nat)), (64, .pointer (some ⟨g, d, none⟩))] (Ssa.stages [V6, V6.setCell ⟨g, d, none⟩ (.int .u32 (rot 8 ((at_ z5 d) ^^^ (at_ z5 a)) : Nat))]) (by kernel_rfl) (by kernel_rfl) (by kernel_rfl) hV6.symm (fun af haf => ?asked6) ?behind6
  case asked6 =>
    have f5 : af.tmps[5]? = some (.pointer (some ⟨g, 0, none⟩)) := by rw [haf]; kernel_rfl
    have f1 : af.tmps[1]? = some (.int .i64 (a : Nat)) := by rw [haf]; kernel_rfl
    have f4 : af.tmps[4]? = some (.int .i64 (d : Nat)) := by rw [haf]; kernel_rfl
    have f55 : af.tmps[55]? = some (.int .i64 (d : Nat)) := by rw [haf]; kernel_rfl
    have f56 : af.tmps[56]? = some (.int .i64 (d : Nat)) := by rw [haf]; kernel_rfl
    have f57 : af.tmps[57]? = some (.pointer (some ⟨g, d, none⟩)) := by rw [haf]; kernel_rfl
    have f58 : af.tmps[58]? = some (.int .u32 (at_ z5 d : Nat)) := by rw [haf]; kernel_rfl
    have f59 : af.tmps[59]? = some (.int .i64 (a : Nat)) := by rw [haf]; kernel_rfl
    have f60 : af.tmps[60]? = some (.pointer (some ⟨g, a, none⟩)) := by rw [haf]; kernel_rfl
    have f61 : af.tmps[61]? = some (.int .u32 (at_ z5 a : Nat)) := by rw [haf]; kernel_rfl
    have f62 : af.tmps[62]? = some (.int .u32 ((at_ z5 d) ^^^ (at_ z5 a) : Nat)) := by rw [haf]; kernel_rfl
    have f63 : af.tmps[63]? = some (.int .u32 (rot 8 ((at_ z5 d) ^^^ (at_ z5 a)) : Nat)) := by rw [haf]; kernel_rfl
    have f64 : af.tmps[64]? = some (.pointer (some ⟨g, d, none⟩)) := by rw [haf]; kernel_rfl
    clear haf
    refine And.intro (Ssa.early_of rfl rfl (Ssa.good_of (d := 55) (.int .i64 (d : Nat)) rfl f55 fun w hw => Ssa.run_mv rfl (Ssa.ev f4) w)) ?_
    refine And.intro (Ssa.early_of rfl rfl (Ssa.good_of (d := 56) (.int .i64 (d : Nat)) rfl f56 fun w hw => Ssa.run_mv rfl (Ssa.ev f4) w)) ?_
    refine And.intro (Ssa.early_of rfl rfl (Ssa.good_of (d := 57) (.pointer (some ⟨g, d, none⟩)) rfl f57 fun w hw => Ssa.run_addr 89 _ _ 16 41 rfl g d (Ssa.ev f5) (Ssa.ev f56) (by omega) Tryd.underlying89 szU w)) ?_
    refine And.intro (Ssa.early_of rfl rfl (Ssa.good_of (d := 58) (.int .u32 (at_ z5 d : Nat)) rfl f58 fun w hw => Ssa.run_load 41 _ _ rfl ⟨g, d, none⟩ _ (Ssa.ev f57) Tryd.underlying41 rfl w (hx6 d (by omega) w hw))) ?_
    refine And.intro (Ssa.early_of rfl rfl (Ssa.good_of (d := 59) (.int .i64 (a : Nat)) rfl f59 fun w hw => Ssa.run_mv rfl (Ssa.ev f1) w)) ?_
    refine And.intro (Ssa.early_of rfl rfl (Ssa.good_of (d := 60) (.pointer (some ⟨g, a, none⟩)) rfl f60 fun w hw => Ssa.run_addr 89 _ _ 16 41 rfl g a (Ssa.ev f5) (Ssa.ev f59) (by omega) Tryd.underlying89 szU w)) ?_
    refine And.intro (Ssa.early_of rfl rfl (Ssa.good_of (d := 61) (.int .u32 (at_ z5 a : Nat)) rfl f61 fun w hw => Ssa.run_load 41 _ _ rfl ⟨g, a, none⟩ _ (Ssa.ev f60) Tryd.underlying41 rfl w (hx6 a (by omega) w hw))) ?_
    refine And.intro (Ssa.early_of rfl rfl (Ssa.good_of (d := 62) (.int .u32 ((at_ z5 d) ^^^ (at_ z5 a) : Nat)) rfl f62 fun w hw => Ssa.run_xor32 rfl (Ssa.ev f58) (Ssa.ev f61) (at_lt B5 _) (at_lt B5 _) w)) ?_
    refine And.intro (Ssa.early_of rfl rfl (Ssa.good_call (d := 63) (.int .u32 (rot 8 ((at_ z5 d) ^^^ (at_ z5 a)) : Nat)) 65 #[.int .u32 ((at_ z5 d) ^^^ (at_ z5 a) : Nat), .int .u64 8] rfl f63 (by intro w; simp [f62, go_sem]) fun w hw => turn8_any _ _ rfl (xor_lt (at_lt B5 _) (at_lt B5 _)) w)) ?_
    refine And.intro (Ssa.early_of rfl rfl (Ssa.good_of (d := 64) (.pointer (some ⟨g, d, none⟩)) rfl f64 fun w hw => Ssa.run_addr 89 _ _ 16 41 rfl g d (Ssa.ev f5) (Ssa.ev f55) (by omega) Tryd.underlying89 szU w)) ?_
    refine And.intro (Ssa.store_of 0 rfl rfl (Ssa.good_store 41 _ _ rfl rfl ⟨g, d, none⟩ .u32 (rot 8 ((at_ z5 d) ^^^ (at_ z5 a)) : Nat) _ (Ssa.ev f64) (Ssa.ev f63) szU hs60 (fun w hw => congrArg (fun w => World.setCell w ⟨g, d, none⟩ (.int .u32 (rot 8 ((at_ z5 d) ^^^ (at_ z5 a)) : Nat))) hw))) ?_
    exact trivial
  case behind6 =>
  rintro w6 h6
  have K6 : Row w6 g 89 (nums .u32 z6) := by
    rw [show w6 = _ from h6, Z6, ← nums_set]; exact R6.set _ _
  have M6 : Row w6 (g + 1) 89 (nums .u32 (List.replicate 16 0)) := by
    rw [show w6 = _ from h6, hV6]; exact (M5.drewN 1).grown (grown_set _ _ _ _) (by omega)
  have O6 : Old w w6 := by
    rw [show w6 = _ from h6, hV6]; exact (O5.drewN 1).grown (grown_set _ _ _ _) hg
  clear h6 hx6 hs60 R6 hV6 M5 O5 K5
  have Y6 := hide Z6
  clear Z6
  simp only [Ssa.putAll, List.foldl_cons, List.foldl_nil, List.setIfInBounds_toArray, List.set_cons_succ, List.set_cons_zero]
  go_wp2_with fail
  obtain ⟨z7, Z7⟩ : ∃ z, z = z6.set c (add (at_ z6 c) (at_ z6 d)) := ⟨_, rfl⟩
  have L7 : z7.length = 16 := by rw [Z7]; simpa using L6
  have B7 : ∀ x ∈ z7, x < 4294967296 := by rw [Z7]; exact mem_set_lt B6 (add_lt _ _)
  obtain ⟨V7, hV7⟩ : ∃ V, V = w6.drewN 1 := ⟨_, rfl⟩
  have R7 : Row V7 g 89 (nums .u32 z6) := by rw [hV7]; exact (K6.drewN 1)
  have hx7 := hxg (V' := [V7.setCell ⟨g, c, none⟩ (.int .u32 (add (at_ z6 c) (at_ z6 d) : Nat))]) R7 L6
  have hs70 := hsg (V' := [V7.setCell ⟨g, c, none⟩ (.int .u32 (add (at_ z6 c) (at_ z6 d) : Nat))]) R7 L6 (c) (by omega)
  refine Ssa.region_put [8] [0, 1, 2, 3, 4, 5, 6, 7] [(65, .int .i64 (c : Nat)), (66, .pointer (some ⟨g, c, none⟩)), (67, .int .u32 (at_ z6 c : Nat)), (68, .int .i64 (d : Nat)), (69, .pointer (some ⟨g, d, none⟩)), (70, .int .u32 (at_ z6 d : Nat)), (71, .int .u32 (add (at_ z6 c) (at_ z6 d) : Nat)), (72, .pointer (some ⟨g, c, none⟩))] (Ssa.stages [V7, V7.setCell ⟨g, c, none⟩ (.int .u32 (add (at_ z6 c) (at_ z6 d) : Nat))]) (by kernel_rfl) (by kernel_rfl) (by kernel_rfl) hV7.symm (fun af haf => ?asked7) ?behind7
  case asked7 =>
    have f5 : af.tmps[5]? = some (.pointer (some ⟨g, 0, none⟩)) := by rw [haf]; kernel_rfl
    have f3 : af.tmps[3]? = some (.int .i64 (c : Nat)) := by rw [haf]; kernel_rfl
    have f4 : af.tmps[4]? = some (.int .i64 (d : Nat)) := by rw [haf]; kernel_rfl
    have f65 : af.tmps[65]? = some (.int .i64 (c : Nat)) := by rw [haf]; kernel_rfl
    have f66 : af.tmps[66]? = some (.pointer (some ⟨g, c, none⟩)) := by rw [haf]; kernel_rfl
    have f67 : af.tmps[67]? = some (.int .u32 (at_ z6 c : Nat)) := by rw [haf]; kernel_rfl
    have f68 : af.tmps[68]? = some (.int .i64 (d : Nat)) := by rw [haf]; kernel_rfl
    have f69 : af.tmps[69]? = some (.pointer (some ⟨g, d, none⟩)) := by rw [haf]; kernel_rfl
    have f70 : af.tmps[70]? = some (.int .u32 (at_ z6 d : Nat)) := by rw [haf]; kernel_rfl
    have f71 : af.tmps[71]? = some (.int .u32 (add (at_ z6 c) (at_ z6 d) : Nat)) := by rw [haf]; kernel_rfl
    have f72 : af.tmps[72]? = some (.pointer (some ⟨g, c, none⟩)) := by rw [haf]; kernel_rfl
    clear haf
    refine And.intro (Ssa.early_of rfl rfl (Ssa.good_of (d := 65) (.int .i64 (c : Nat)) rfl f65 fun w hw => Ssa.run_mv rfl (Ssa.ev f3) w)) ?_
    refine And.intro (Ssa.early_of rfl rfl (Ssa.good_of (d := 66) (.pointer (some ⟨g, c, none⟩)) rfl f66 fun w hw => Ssa.run_addr 89 _ _ 16 41 rfl g c (Ssa.ev f5) (Ssa.ev f65) (by omega) Tryd.underlying89 szU w)) ?_
    refine And.intro (Ssa.early_of rfl rfl (Ssa.good_of (d := 67) (.int .u32 (at_ z6 c : Nat)) rfl f67 fun w hw => Ssa.run_load 41 _ _ rfl ⟨g, c, none⟩ _ (Ssa.ev f66) Tryd.underlying41 rfl w (hx7 c (by omega) w hw))) ?_
    refine And.intro (Ssa.early_of rfl rfl (Ssa.good_of (d := 68) (.int .i64 (d : Nat)) rfl f68 fun w hw => Ssa.run_mv rfl (Ssa.ev f4) w)) ?_
    refine And.intro (Ssa.early_of rfl rfl (Ssa.good_of (d := 69) (.pointer (some ⟨g, d, none⟩)) rfl f69 fun w hw => Ssa.run_addr 89 _ _ 16 41 rfl g d (Ssa.ev f5) (Ssa.ev f68) (by omega) Tryd.underlying89 szU w)) ?_
    refine And.intro (Ssa.early_of rfl rfl (Ssa.good_of (d := 70) (.int .u32 (at_ z6 d : Nat)) rfl f70 fun w hw => Ssa.run_load 41 _ _ rfl ⟨g, d, none⟩ _ (Ssa.ev f69) Tryd.underlying41 rfl w (hx7 d (by omega) w hw))) ?_
    refine And.intro (Ssa.early_of rfl rfl (Ssa.good_of (d := 71) (.int .u32 (add (at_ z6 c) (at_ z6 d) : Nat)) rfl f71 fun w hw => Ssa.run_add32 rfl (Ssa.ev f67) (Ssa.ev f70) w)) ?_
    refine And.intro (Ssa.early_of rfl rfl (Ssa.good_of (d := 72) (.pointer (some ⟨g, c, none⟩)) rfl f72 fun w hw => Ssa.run_addr 89 _ _ 16 41 rfl g c (Ssa.ev f5) (Ssa.ev f65) (by omega) Tryd.underlying89 szU w)) ?_
    refine And.intro (Ssa.store_of 0 rfl rfl (Ssa.good_store 41 _ _ rfl rfl ⟨g, c, none⟩ .u32 (add (at_ z6 c) (at_ z6 d) : Nat) _ (Ssa.ev f72) (Ssa.ev f71) szU hs70 (fun w hw => congrArg (fun w => World.setCell w ⟨g, c, none⟩ (.int .u32 (add (at_ z6 c) (at_ z6 d) : Nat))) hw))) ?_
    exact trivial
  case behind7 =>
  rintro w7 h7
  have K7 : Row w7 g 89 (nums .u32 z7) := by
    rw [show w7 = _ from h7, Z7, ← nums_set]; exact R7.set _ _
  have M7 : Row w7 (g + 1) 89 (nums .u32 (List.replicate 16 0)) := by
    rw [show w7 = _ from h7, hV7]; exact (M6.drewN 1).grown (grown_set _ _ _ _) (by omega)
  have O7 : Old w w7 := by
    rw [show w7 = _ from h7, hV7]; exact (O6.drewN 1).grown (grown_set _ _ _ _) hg
  clear h7 hx7 hs70 R7 hV7 M6 O6 K6
  have Y7 := hide Z7
  clear Z7
  simp only [Ssa.putAll, List.foldl_cons, List.foldl_nil, List.setIfInBounds_toArray, List.set_cons_succ, List.set_cons_zero]
  go_wp2_with fail
  obtain ⟨z8, Z8⟩ : ∃ z, z = z7.set b (rot 7 ((at_ z7 b) ^^^ (at_ z7 c))) := ⟨_, rfl⟩
  have L8 : z8.length = 16 := by rw [Z8]; simpa using L7
  have B8 : ∀ x ∈ z8, x < 4294967296 := by rw [Z8]; exact mem_set_lt B7 (rot7_lt (xor_lt (at_lt B7 _) (at_lt B7 _)))
  obtain ⟨V8, hV8⟩ : ∃ V, V = w7.drewN 1 := ⟨_, rfl⟩
  have R8 : Row V8 g 89 (nums .u32 z7) := by rw [hV8]; exact (K7.drewN 1)
  have hx8 := hxg (V' := [V8.setCell ⟨g, b, none⟩ (.int .u32 (rot 7 ((at_ z7 b) ^^^ (at_ z7 c)) : Nat))]) R8 L7
  have hs80 := hsg (V' := [V8.setCell ⟨g, b, none⟩ (.int .u32 (rot 7 ((at_ z7 b) ^^^ (at_ z7 c)) : Nat))]) R8 L7 (b) (by omega)
  refine Ssa.region_put [10] [0, 1, 2, 3, 4, 5, 6, 7, 8, 9] [(73, .int .i64 (b : Nat)), (74, .int .i64 (b : Nat)), (75, .pointer (some ⟨g, b, none⟩)), (76, .int .u32 (at_ z7 b : Nat)), (77, .int .i64 (c : Nat)), (78, .pointer (some ⟨g, c, none⟩)), (79, .int .u32 (at_ z7 c : Nat)), (80, .int .u32 ((at_ z7 b) ^^^ (at_ z7 c) : Nat)), (81, .int .u32 (rot 7 ((at_ z7 b) ^^^ (at_ z7 c)) : Nat)), (82, .pointer (some ⟨g, b, none⟩))] (Ssa.stages [V8, V8.setCell ⟨g, b, none⟩ (.int .u32 (rot 7 ((at_ z7 b) ^^^ (at_ z7 c)) : Nat))]) (by kernel_rfl) (by kernel_rfl) (by kernel_rfl) hV8.symm (fun af haf => ?asked8) ?behind8
  case asked8 =>
    have f5 : af.tmps[5]? = some (.pointer (some ⟨g, 0, none⟩)) := by rw [haf]; kernel_rfl
    have f2 : af.tmps[2]? = some (.int .i64 (b : Nat)) := by rw [haf]; kernel_rfl
    have f3 : af.tmps[3]? = some (.int .i64 (c : Nat)) := by rw [haf]; kernel_rfl
    have f73 : af.tmps[73]? = some (.int .i64 (b : Nat)) := by rw [haf]; kernel_rfl
    have f74 : af.tmps[74]? = some (.int .i64 (b : Nat)) := by rw [haf]; kernel_rfl
    have f75 : af.tmps[75]? = some (.pointer (some ⟨g, b, none⟩)) := by rw [haf]; kernel_rfl
    have f76 : af.tmps[76]? = some (.int .u32 (at_ z7 b : Nat)) := by rw [haf]; kernel_rfl
    have f77 : af.tmps[77]? = some (.int .i64 (c : Nat)) := by rw [haf]; kernel_rfl
    have f78 : af.tmps[78]? = some (.pointer (some ⟨g, c, none⟩)) := by rw [haf]; kernel_rfl
    have f79 : af.tmps[79]? = some (.int .u32 (at_ z7 c : Nat)) := by rw [haf]; kernel_rfl
    have f80 : af.tmps[80]? = some (.int .u32 ((at_ z7 b) ^^^ (at_ z7 c) : Nat)) := by rw [haf]; kernel_rfl
    have f81 : af.tmps[81]? = some (.int .u32 (rot 7 ((at_ z7 b) ^^^ (at_ z7 c)) : Nat)) := by rw [haf]; kernel_rfl
    have f82 : af.tmps[82]? = some (.pointer (some ⟨g, b, none⟩)) := by rw [haf]; kernel_rfl
    clear haf
    refine And.intro (Ssa.early_of rfl rfl (Ssa.good_of (d := 73) (.int .i64 (b : Nat)) rfl f73 fun w hw => Ssa.run_mv rfl (Ssa.ev f2) w)) ?_
    refine And.intro (Ssa.early_of rfl rfl (Ssa.good_of (d := 74) (.int .i64 (b : Nat)) rfl f74 fun w hw => Ssa.run_mv rfl (Ssa.ev f2) w)) ?_
    refine And.intro (Ssa.early_of rfl rfl (Ssa.good_of (d := 75) (.pointer (some ⟨g, b, none⟩)) rfl f75 fun w hw => Ssa.run_addr 89 _ _ 16 41 rfl g b (Ssa.ev f5) (Ssa.ev f74) (by omega) Tryd.underlying89 szU w)) ?_
    refine And.intro (Ssa.early_of rfl rfl (Ssa.good_of (d := 76) (.int .u32 (at_ z7 b : Nat)) rfl f76 fun w hw => Ssa.run_load 41 _ _ rfl ⟨g, b, none⟩ _ (Ssa.ev f75) Tryd.underlying41 rfl w (hx8 b (by omega) w hw))) ?_
    refine And.intro (Ssa.early_of rfl rfl (Ssa.good_of (d := 77) (.int .i64 (c : Nat)) rfl f77 fun w hw => Ssa.run_mv rfl (Ssa.ev f3) w)) ?_
    refine And.intro (Ssa.early_of rfl rfl (Ssa.good_of (d := 78) (.pointer (some ⟨g, c, none⟩)) rfl f78 fun w hw => Ssa.run_addr 89 _ _ 16 41 rfl g c (Ssa.ev f5) (Ssa.ev f77) (by omega) Tryd.underlying89 szU w)) ?_
    refine And.intro (Ssa.early_of rfl rfl (Ssa.good_of (d := 79) (.int .u32 (at_ z7 c : Nat)) rfl f79 fun w hw => Ssa.run_load 41 _ _ rfl ⟨g, c, none⟩ _ (Ssa.ev f78) Tryd.underlying41 rfl w (hx8 c (by omega) w hw))) ?_
    refine And.intro (Ssa.early_of rfl rfl (Ssa.good_of (d := 80) (.int .u32 ((at_ z7 b) ^^^ (at_ z7 c) : Nat)) rfl f80 fun w hw => Ssa.run_xor32 rfl (Ssa.ev f76) (Ssa.ev f79) (at_lt B7 _) (at_lt B7 _) w)) ?_
    refine And.intro (Ssa.early_of rfl rfl (Ssa.good_call (d := 81) (.int .u32 (rot 7 ((at_ z7 b) ^^^ (at_ z7 c)) : Nat)) 65 #[.int .u32 ((at_ z7 b) ^^^ (at_ z7 c) : Nat), .int .u64 7] rfl f81 (by intro w; simp [f80, go_sem]) fun w hw => turn7_any _ _ rfl (xor_lt (at_lt B7 _) (at_lt B7 _)) w)) ?_
    refine And.intro (Ssa.early_of rfl rfl (Ssa.good_of (d := 82) (.pointer (some ⟨g, b, none⟩)) rfl f82 fun w hw => Ssa.run_addr 89 _ _ 16 41 rfl g b (Ssa.ev f5) (Ssa.ev f73) (by omega) Tryd.underlying89 szU w)) ?_
    refine And.intro (Ssa.store_of 0 rfl rfl (Ssa.good_store 41 _ _ rfl rfl ⟨g, b, none⟩ .u32 (rot 7 ((at_ z7 b) ^^^ (at_ z7 c)) : Nat) _ (Ssa.ev f82) (Ssa.ev f81) szU hs80 (fun w hw => congrArg (fun w => World.setCell w ⟨g, b, none⟩ (.int .u32 (rot 7 ((at_ z7 b) ^^^ (at_ z7 c)) : Nat))) hw))) ?_
    exact trivial
  case behind8 =>
  rintro w8 h8
  have K8 : Row w8 g 89 (nums .u32 z8) := by
    rw [show w8 = _ from h8, Z8, ← nums_set]; exact R8.set _ _
  have M8 : Row w8 (g + 1) 89 (nums .u32 (List.replicate 16 0)) := by
    rw [show w8 = _ from h8, hV8]; exact (M7.drewN 1).grown (grown_set _ _ _ _) (by omega)
  have O8 : Old w w8 := by
    rw [show w8 = _ from h8, hV8]; exact (O7.drewN 1).grown (grown_set _ _ _ _) hg
  clear h8 hx8 hs80 R8 hV8 M7 O7 K7
  have Y8 := hide Z8
  clear Z8
  simp only [Ssa.putAll, List.foldl_cons, List.foldl_nil, List.setIfInBounds_toArray, List.set_cons_succ, List.set_cons_zero]
  have HI : Hid ((Tryd.prog.info? 89).map (·.size) = some (nums .u32 z8).length) := by
    show _ = _
    rw [nums_length, L8]; kernel_rfl
  have HL : Hid ((nums .u32 (List.replicate 16 0)).length = (nums .u32 z8).length) := by
    show _ = _
    rw [nums_length, nums_length, L8]; rfl
  have HQ := hide (steps_quart L0 HA.out Y1.out Y2.out Y3.out Y4.out Y5.out Y6.out Y7.out Y8.out)
  go_wp2_with (first
    | refine wp_load_whole rfl 89 _ rfl g rfl K8 Tryd.underlying89 rfl HI.out ?_
    | (refine wp_store_whole rfl 89 _ _ rfl (g + 1) rfl (nums .u32 z8) rfl M8 HI.out HL.out (nums_oneCell _ _) ?_; rintro w9 h9))
  have K9 : Row w9 (g + 1) 89 (nums .u32 z8) := by rw [h9]; exact M8.whole _
  have O9 : Old w w9 := by rw [h9]; exact O8.grown (grown_setRow _ _ _) (by omega)
  refine bodyPost_ret (v := .agg (nums .u32 z8).toArray) (results_whole rfl rfl K9 Tryd.underlying89 rfl HI.out) rfl ⟨?_, O9⟩
  rw [HQ.out]
end Go.Proofs.YtjbpnhibgafdmaaDoor
