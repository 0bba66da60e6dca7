/-
  The walk of StreamBegins: a shorter stream is the beginning of a longer one; numbers are its bytes.
-/
import Derived.Test.YtnmdpjedchaajaaDoorLaws5b
import Derived.Test.YtnmdpjedchaajaaDoorLaid4
namespace Go.Proofs.YtnmdpjedchaajaaDoor
open Go.RowKit Cha
set_option linter.unusedVariables false

theorem is8 {v : Value} (h : IsInt .u8 v) : ∃ n : Nat, n < 256 ∧ v = .int .u8 (n : Int) := by
  obtain ⟨a, rfl, h⟩ := h
  have := bounds_u8 h
  exact ⟨a.toNat, by omega, by congr; omega⟩
theorem rd_take {w : World} {a : Option Addr} {k : IntKind} {xs : List Nat} (h : Rd w a (nums k xs)) (m : Nat) : Rd w a (nums k (xs.take m)) := by
  intro i v hv
  refine h i v ?_
  unfold nums at *
  rw [List.map_take, List.getElem?_take] at hv
  split at hv
  · exact hv
  · cases hv

section
variable {o : Oper} {ρ : Operand → Value} {x y : Operand}
theorem conv_u8 {n : Nat} (hn : n < 256) (ho : o.op = .convert 5 3 x) (hx : ρ x = .int .u8 (n : Nat)) (w : World) : (execOp ρ o).run Tryd.prog w = .ok (.value (.int .i64 (n : Nat))) w := by
  unfold execOp
  simp only [ho, hx]
  simp [go_sem, Tryd.underlying5, Tryd.underlying3]
  rw [IntKind.wrap_i64]; omega
theorem mul_4 {m : Nat} (hm : m < 256) {u : TypeId} (ho : o.op = .binOp .mul 3 (.const (.int .i64 4)) x u) (hx : ρ x = .int .i64 (m : Nat)) (hc : ∀ c, ρ (.const c) = c) (w : World) : (execOp ρ o).run Tryd.prog w = .ok (.value (.int .i64 (4 * (m : Nat)))) w := by
  unfold execOp
  simp only [ho, hx, hc]
  simp [go_sem]
  rw [IntKind.wrap_i64]; omega
theorem add_L {n m L : Nat} (hn : n < 256) (hm : m < 256) (hL : L = n + 4 * m) {u : TypeId} (ho : o.op = .binOp .add 3 x y u) (hx : ρ x = .int .i64 (n : Nat)) (hy : ρ y = .int .i64 (4 * (m : Nat))) (w : World) : (execOp ρ o).run Tryd.prog w = .ok (.value (.int .i64 (L : Nat))) w := by
  unfold execOp
  simp only [ho, hx, hy]
  simp [go_sem]
  rw [IntKind.wrap_i64]; omega
theorem cut_n {n L g : Nat} (hn : n < 256) (hL : n ≤ L) (ho : o.op = .slice 27 x none (some y) none) (hx : ρ x = .slice (some ⟨g, 0, none⟩) L L) (hy : ρ y = .int .u8 (n : Nat)) (w : World) : (execOp ρ o).run Tryd.prog w = .ok (.value (.slice (some ⟨g, 0, none⟩) n L)) w := by
  unfold execOp
  have he : Tryd.prog.elem 27 = 5 := by kernel_rfl
  have hu' : Tryd.prog.underlying 27 = some (.slice (Tryd.prog.elem 27)) := by kernel_rfl
  have hi := Tryd.infoU8
  cases hq : Tryd.prog.info? 5 with
  | none => simp [hq] at hi
  | some inf =>
    have hsz : inf.size = 1 := by simp [hq] at hi; exact hi.2.1
    simp only [ho, hx, Option.map_some, Option.map_none, hy, Sem.run_bind, run_sliceAt_slice w 27 _ _ _ _ hu']
    rw [run_slice_h w 27 _ L L hu' .u8 n (by omega) (by omega), he]
    simp [sizeOf, typeInfo, hq, hsz, sliced, go_sem]
end

/-- The slices of StreamBegins. -/
structure GB (w : World) (ga gb gv : Nat) (aa bs vs : List Nat) (wr : World) : Prop where
  a : Rd wr (some ⟨ga, 0, none⟩) (nums .u8 aa)
  b : Rd wr (some ⟨gb, 0, none⟩) (nums .u8 bs)
  v : Rd wr (some ⟨gv, 0, none⟩) (nums .u32 vs)
  old : Old w wr
theorem GB.mono {w wr w' : World} {ga gb gv : Nat} {aa bs vs : List Nat} (h : GB w ga gb gv aa bs vs wr) (o : Old wr w') : GB w ga gb gv aa bs vs w' := ⟨h.a.mono o, h.b.mono o, h.v.mono o, h.old.trans o⟩

theorem rd_at {w : World} {g : Nat} {k : IntKind} {xs : List Nat} (h : Rd w (some ⟨g, 0, none⟩) (nums k xs)) {i : Nat} (hi : i < xs.length) : w.cell? ⟨g, i, none⟩ = some (.int k (at_ xs i : Nat)) := by
  obtain ⟨b, off, ha, hc⟩ := h i (.int k (at_ xs i : Nat)) (by simp [nums, at_, hi])
  obtain ⟨rfl, rfl⟩ : g = b ∧ 0 = off := by simpa using ha
  simpa using hc
theorem svec_at (s : List Nat) (t m L k : Nat) (hk : k < m) (hL : 4 * m ≤ L) : at_ (svec s t m) k = le4 (at_ (sbytes s t L) (4 * k)) (at_ (sbytes s t L) (4 * k + 1)) (at_ (sbytes s t L) (4 * k + 2)) (at_ (sbytes s t L) (4 * k + 3)) := by
  have e : at_ (svec s t m) k = le (sbytes s t (4 * m)) (4 * k) := by
    show (svec s t m).getD k 0 = _
    rw [List.getD_eq_getElem?_getD, svec, List.getElem?_map, List.getElem?_range hk, Option.map_some, Option.getD_some]
  rw [e, le_sbytes _ _ _ _ (by omega), at_sbytes _ _ _ _ (by omega), at_sbytes _ _ _ _ (by omega), at_sbytes _ _ _ _ (by omega), at_sbytes _ _ _ _ (by omega)]

set_option maxHeartbeats 8000000 in
theorem walk_StreamBegins (v0 v1 v2 v3 : Value) (w : World) (w0 : IsArr .u8 256 32 v0) (w1 : IsInt .u32 v1) (w2 : IsInt .u8 v2) (w3 : IsInt .u8 v3) (ht : QTab w) :
    Calls Tryd.prog 7 #[v0, v1, v2, v3] w fun e w' => e = .returned (.bool true) ∧ Old w w' := by
  obtain ⟨s, rfl, hl, hb⟩ := w0
  obtain ⟨t, htt, rfl⟩ := is32 w1
  obtain ⟨n, ln, rfl⟩ := is8 w2
  obtain ⟨m, lm, rfl⟩ := is8 w3
  have HT := hide ht
  obtain ⟨L, LE⟩ : ∃ L, Hid (L = n + 4 * m) := ⟨_, rfl⟩
  have C1 := hide (BytesAt s hl hb t htt n (by omega) (n : Int) rfl)
  have C2 := hide (BytesAt s hl hb t htt L (by have := LE.out; omega) ((n : Int) + 4 * (m : Int)) (by have := LE.out; omega))
  have C3 := hide (Vector_any s hl hb t htt (m : Int))
  rw [kept_in m 256 (by omega)] at C3
  have HI : Hid ((Tryd.prog.info? 22).map (·.size) = some (nums .u8 s).length) := info_k' hl
  have K1 : Hid (Row (w.alloc (.cells (nums .u8 s).toArray 22)) w.heap.size 22 (nums .u8 s)) := Row.new w _ _
  have O1 : Hid (Old w (w.alloc (.cells (nums .u8 s).toArray 22))) := Old.of_alloc _ _
  have AL := hide (sbytes_length s t n)
  have BL := hide (sbytes_length s t L)
  have VL := hide (svec_length s t m)
  have NL : Hid (n ≤ L) := by show n ≤ L; have := LE.out; omega
  have TK : Hid ((sbytes s t L).take n = sbytes s t n) := by show _ = _; rw [LE.out]; exact sbytes_take s t n (4 * m)
  have BB := hide (at8_lt (sbytes_lt s t L))
  have SV : Hid (∀ k, k < m → at_ (svec s t m) k = le4 (at_ (sbytes s t L) (4 * k)) (at_ (sbytes s t L) (4 * k + 1)) (at_ (sbytes s t L) (4 * k + 2)) (at_ (sbytes s t L) (4 * k + 3))) := fun k hk => svec_at s t m L k hk (by have := LE.out; omega)
  revert C1 C2 C3 AL BL VL TK BB SV
  generalize sbytes s t n = aa
  generalize sbytes s t L = bs
  generalize svec s t m = vs
  intro C1 C2 C3 AL BL VL TK BB SV
  clear w1 w2 w3 ht hl hb htt
  go_enter Tryd.func7, Tryd.ntmps7
  go_wp2_with (refine wp_load_whole rfl 22 _ rfl w.heap.size rfl K1.out Tryd.underlying22 rfl HI.out ?_)
  refine (C1.out _ (HT.out.mono O1.out)).mono ?_
  rintro e w1 ⟨ga, -, rfl, RA, o1⟩
  have K2 := K1.out.mono o1
  have O2 := O1.out.trans o1
  clear K1 O1 o1 C1
  go_wp2_with (refine wp_load_whole rfl 22 _ rfl w.heap.size rfl K2 Tryd.underlying22 rfl HI.out ?_)
  refine (C2.out _ (HT.out.mono O2)).mono ?_
  rintro e w2 ⟨gb, -, rfl, RB, o2⟩
  have K3 := K2.mono o2
  have O3 := O2.trans o2
  have RA3 := RA.mono o2
  clear K2 O2 o2 C2 RA
  go_wp2_with (refine wp_load_whole rfl 22 _ rfl w.heap.size rfl K3 Tryd.underlying22 rfl HI.out ?_)
  refine (C3.out _ (HT.out.mono O3)).mono ?_
  rintro e w3 ⟨gv, -, rfl, RV, o3⟩
  have G3 : GB w ga gb gv aa bs vs w3 := ⟨(RA3.mono o3).rd, (RB.mono o3).rd, RV.rd, O3.trans o3⟩
  clear K3 O3 o3 C3 RA3 RB RV HI
  go_wp2_with fail
  have G4 : GB w ga gb gv aa bs vs (w3.drewN 1) := G3.mono ((Old.refl w3).drewN 1)
  clear G3
  refine Ssx.region (Ext := Old) (GB w ga gb gv aa bs vs) [32, 33, 34, 35, 36, 37, 38, 39, 40, 41, 42, 43, 44, 45, 46, 47, 48, 49, 50, 51, 52, 53, 54, 55, 56, 57, 58, 59, 60, 61, 62, 63, 64, 65, 66, 67]
    [(32, Ssx.cst (.bool true)), (33, Ssx.cst (.bool false)), (34, Ssx.cst (.bool false)), (35, Ssx.cst (.slice (some ⟨ga, 0, none⟩) n n)), (36, Ssx.cst (.int .i64 (n : Nat))), (37, Ssx.cst (.int .u8 (n : Nat))), (38, Ssx.cst (.int .i64 (n : Nat))), (39, Ssx.cst (.bool false)), (40, Ssx.cst (.bool false)), (41, Ssx.cst (.bool false)), (42, Ssx.cst (.slice (some ⟨gb, 0, none⟩) L L)), (43, Ssx.cst (.int .i64 (L : Nat))), (44, Ssx.cst (.int .u8 (n : Nat))), (45, Ssx.cst (.int .i64 (n : Nat))), (46, Ssx.cst (.int .u8 (m : Nat))), (47, Ssx.cst (.int .i64 (m : Nat))), (48, Ssx.cst (.int .i64 (4 * (m : Nat)))), (49, Ssx.cst (.int .i64 (L : Nat))), (50, Ssx.cst (.bool false)), (51, Ssx.cst (.bool false)), (52, Ssx.cst (.bool false)), (53, Ssx.cst (.slice (some ⟨gv, 0, none⟩) m m)), (54, Ssx.cst (.int .i64 (m : Nat))), (55, Ssx.cst (.int .u8 (m : Nat))), (56, Ssx.cst (.int .i64 (m : Nat))), (57, Ssx.cst (.bool false)), (58, Ssx.cst (.bool false)), (59, Ssx.cst (.bool false)), (60, Ssx.cst (.slice (some ⟨gb, 0, none⟩) L L)), (61, Ssx.cst (.int .u8 (n : Nat))), (62, Ssx.cst (.slice (some ⟨gb, 0, none⟩) n L)), (63, Ssx.cst (.string (Ssb.bstr aa))), (64, Ssx.cst (.slice (some ⟨ga, 0, none⟩) n n)), (65, Ssx.cst (.string (Ssb.bstr aa))), (66, Ssx.cst (.bool false)), (67, Ssx.cst (.bool false))]
    [(34, false), (41, false), (52, false), (59, false)] (by kernel_rfl) (by kernel_rfl) (by kernel_rfl) (by kernel_rfl) ?told (by kernel_rfl) (by kernel_rfl) (by kernel_rfl) G4 ?good ?behind
  case told =>
    intro t b ht v w' h
    simp only [List.mem_cons, List.not_mem_nil, or_false, Prod.mk.injEq] at ht
    rcases ht with ⟨rfl, rfl⟩ | ⟨rfl, rfl⟩ | ⟨rfl, rfl⟩ | ⟨rfl, rfl⟩ <;> exact h
  case good =>
    refine ⟨?_, Ssx.val1 Old.refl (x := 32) (v := .bool false) (.bool true) (by simp [Op.operands]) rfl (fun _ _ h => h) (fun ρ h1 hc w => by simp [h1, go_sem]) (fun _ => rfl), Ssx.mv Old.refl rfl rfl (fun _ _ h => h), Ssx.mv Old.refl rfl rfl (fun _ _ h => h), Ssx.val1 Old.refl (x := 35) (v := .int .i64 (n : Nat)) (.slice (some ⟨ga, 0, none⟩) n n) (by simp [Op.operands, Call.operands]) rfl (fun _ _ h => h) (fun ρ h1 hc w => by simp [h1, go_sem]) (fun _ => rfl), Ssx.mv Old.refl rfl rfl (fun _ _ h => h), Ssx.val1 Old.refl (x := 37) (v := .int .i64 (n : Nat)) (.int .u8 (n : Nat)) (by simp [Op.operands]) rfl (fun _ _ h => h) (fun ρ h1 hc w => by exact conv_u8 ln rfl h1 w) (fun _ => rfl), Ssx.val2 Old.refl (x := 36) (y := 38) (v := .bool false) (.int .i64 (n : Nat)) (.int .i64 (n : Nat)) (by simp [Op.operands]) (by simp [Op.operands]) rfl (fun _ _ h => h) (fun _ _ h => h) (fun ρ h1 h2 hc w => by simp [h1, h2, go_sem]) (fun _ => rfl), Ssx.or Old.refl rfl rfl (fun _ _ h => h) (fun _ _ h => h), Ssx.mv Old.refl rfl rfl (fun _ _ h => h), Ssx.mv Old.refl rfl rfl (fun _ _ h => h), Ssx.val1 Old.refl (x := 42) (v := .int .i64 (L : Nat)) (.slice (some ⟨gb, 0, none⟩) L L) (by simp [Op.operands, Call.operands]) rfl (fun _ _ h => h) (fun ρ h1 hc w => by simp [h1, go_sem]) (fun _ => rfl), Ssx.mv Old.refl rfl rfl (fun _ _ h => h), Ssx.val1 Old.refl (x := 44) (v := .int .i64 (n : Nat)) (.int .u8 (n : Nat)) (by simp [Op.operands]) rfl (fun _ _ h => h) (fun ρ h1 hc w => by exact conv_u8 ln rfl h1 w) (fun _ => rfl), Ssx.mv Old.refl rfl rfl (fun _ _ h => h), Ssx.val1 Old.refl (x := 46) (v := .int .i64 (m : Nat)) (.int .u8 (m : Nat)) (by simp [Op.operands]) rfl (fun _ _ h => h) (fun ρ h1 hc w => by exact conv_u8 lm rfl h1 w) (fun _ => rfl), Ssx.val1 Old.refl (x := 47) (v := .int .i64 (4 * (m : Nat))) (.int .i64 (m : Nat)) (by simp [Op.operands]) rfl (fun _ _ h => h) (fun ρ h1 hc w => by exact mul_4 lm rfl h1 hc w) (fun _ => rfl), Ssx.val2 Old.refl (x := 45) (y := 48) (v := .int .i64 (L : Nat)) (.int .i64 (n : Nat)) (.int .i64 (4 * (m : Nat))) (by simp [Op.operands]) (by simp [Op.operands]) rfl (fun _ _ h => h) (fun _ _ h => h) (fun ρ h1 h2 hc w => by exact add_L ln lm LE.out rfl h1 h2 w) (fun _ => rfl), Ssx.val2 Old.refl (x := 43) (y := 49) (v := .bool false) (.int .i64 (L : Nat)) (.int .i64 (L : Nat)) (by simp [Op.operands]) (by simp [Op.operands]) rfl (fun _ _ h => h) (fun _ _ h => h) (fun ρ h1 h2 hc w => by simp [h1, h2, go_sem]) (fun _ => rfl), Ssx.or Old.refl rfl rfl (fun _ _ h => h) (fun _ _ h => h), Ssx.mv Old.refl rfl rfl (fun _ _ h => h), Ssx.mv Old.refl rfl rfl (fun _ _ h => h), Ssx.val1 Old.refl (x := 53) (v := .int .i64 (m : Nat)) (.slice (some ⟨gv, 0, none⟩) m m) (by simp [Op.operands, Call.operands]) rfl (fun _ _ h => h) (fun ρ h1 hc w => by simp [h1, go_sem]) (fun _ => rfl), Ssx.mv Old.refl rfl rfl (fun _ _ h => h), Ssx.val1 Old.refl (x := 55) (v := .int .i64 (m : Nat)) (.int .u8 (m : Nat)) (by simp [Op.operands]) rfl (fun _ _ h => h) (fun ρ h1 hc w => by exact conv_u8 lm rfl h1 w) (fun _ => rfl), Ssx.val2 Old.refl (x := 54) (y := 56) (v := .bool false) (.int .i64 (m : Nat)) (.int .i64 (m : Nat)) (by simp [Op.operands]) (by simp [Op.operands]) rfl (fun _ _ h => h) (fun _ _ h => h) (fun ρ h1 h2 hc w => by simp [h1, h2, go_sem]) (fun _ => rfl), Ssx.or Old.refl rfl rfl (fun _ _ h => h) (fun _ _ h => h), Ssx.mv Old.refl rfl rfl (fun _ _ h => h), Ssx.mv Old.refl rfl rfl (fun _ _ h => h), Ssx.mv Old.refl rfl rfl (fun _ _ h => h), Ssx.val2 Old.refl (x := 60) (y := 61) (v := .slice (some ⟨gb, 0, none⟩) n L) (.slice (some ⟨gb, 0, none⟩) L L) (.int .u8 (n : Nat)) (by simp [Op.operands]) (by simp [Op.operands]) rfl (fun _ _ h => h) (fun _ _ h => h) (fun ρ h1 h2 hc w => by exact cut_n ln NL.out rfl h1 h2 w) (fun _ => rfl), Ssx.str Old.refl rfl rfl Tryd.underlying27 Tryd.underlying5 Tryd.underlying9 (fun v w hC h => ⟨_, _, _, _, h, AL.out, by have := rd_take hC.b n; rw [TK.out] at this; exact this, rfl⟩), Ssx.mv Old.refl rfl rfl (fun _ _ h => h), Ssx.str Old.refl rfl rfl Tryd.underlying27 Tryd.underlying5 Tryd.underlying9 (fun v w hC h => ⟨_, _, _, _, h, AL.out, hC.a, rfl⟩), Ssx.nes Old.refl rfl rfl Tryd.underlying9 _ (fun _ _ h => h) (fun _ _ h => h) (fun _ => rfl), Ssx.or Old.refl rfl rfl (fun _ _ h => h) (fun _ _ h => h), trivial⟩
    refine Ssx.call rfl fun a w' hC hop => ⟨8, #[], ?_, ?_⟩
    · simp [go_sem]
    · exact (awake5 w' (HT.out.mono hC.old)).mono fun _ _ ⟨h1, h2⟩ => ⟨_, h1, hC.mono h2, h2, rfl⟩
  case behind =>
    intro vals w' hC hv
    have h67 : vals 67 = .bool false := hv _ (.tail _ (.tail _ (.tail _ (.tail _ (.tail _ (.tail _ (.tail _ (.tail _ (.tail _ (.tail _ (.tail _ (.tail _ (.tail _ (.tail _ (.tail _ (.tail _ (.tail _ (.tail _ (.tail _ (.tail _ (.tail _ (.tail _ (.tail _ (.tail _ (.tail _ (.tail _ (.tail _ (.tail _ (.tail _ (.tail _ (.tail _ (.tail _ (.tail _ (.tail _ (.tail _ (.head _))))))))))))))))))))))))))))))))))))
    clear hv G4
    simp only [Ssa.putAll, List.map_cons, List.map_nil, List.foldl_cons, List.foldl_nil, List.setIfInBounds_toArray, List.set_cons_succ, List.set_cons_zero]
    rename_i Q0 K0 hK
    refine hK _ w' ?_
    clear hK
    rw [h67]
    go_wp2_with fail
    go_loopw [12] (fun vi wr => ∃ k : Nat, k ≤ m ∧ vi = .int .i64 (k : Nat) ∧ GB w ga gb gv aa bs vs wr) (fun vi _ => (m - intOf vi).toNat)
    case atStart => exact ⟨0, by omega, rfl, hC⟩
    case round =>
      clear hC
      obtain ⟨k, hk, rfl, G⟩ := hrel
      by_cases hkm : k = m
      · subst hkm
        go_wp2
        go_ret
        exact ⟨rfl, G.old⟩
      · have hkl : k < m := by omega
        have hL : 4 * k + 3 < L := by have := LE.out; omega
        have hki : (0 : Int) ≤ k := by omega
        have hki2 : (k : Int) < m := by omega
        have i0 : 4 * (k : Int) < L := by omega
        have i1 : 4 * (k : Int) + 1 < L := by omega
        have i2 : 4 * (k : Int) + 2 < L := by omega
        have i3 : 4 * (k : Int) + 3 < L := by omega
        have cv := rd_at G.v (i := k) (by rw [VL.out]; exact hkl)
        have c0 := rd_at G.b (i := 4 * k) (by rw [BL.out]; omega)
        have c1 := rd_at G.b (i := 4 * k + 1) (by rw [BL.out]; omega)
        have c2 := rd_at G.b (i := 4 * k + 2) (by rw [BL.out]; omega)
        have c3 := rd_at G.b (i := 4 * k + 3) (by rw [BL.out]; omega)
        have e := hide (SV.out k hkl)
        have b0 := BB.out (4 * k)
        have b1 := BB.out (4 * k + 1)
        have b2 := BB.out (4 * k + 2)
        have b3 := BB.out (4 * k + 3)
        revert cv c0 c1 c2 c3 e b0 b1 b2 b3
        generalize at_ vs k = x
        generalize at_ bs (4 * k) = x0
        generalize at_ bs (4 * k + 1) = x1
        generalize at_ bs (4 * k + 2) = x2
        generalize at_ bs (4 * k + 3) = x3
        intro cv c0 c1 c2 c3 e b0 b1 b2 b3
        have E : bits .or .u32 (bits .or .u32 (bits .or .u32 (x0 : Int) ((x1 : Int) * 256)) ((x2 : Int) * 65536)) ((x3 : Int) * 16777216) = ((le4 x0 x1 x2 x3 : Nat) : Int) :=
          or_join 24 (or_join 16 (or_join 8 rfl (b := x1 * 256) (by omega) (by omega) (by omega) (by omega) (by omega)) (b := x2 * 65536) (by omega) (by omega) (by omega) (by omega) (by omega)) (b := x3 * 16777216) (by omega) (by omega) (by omega) (by omega) (by omega)
        rw [← e.out] at E
        clear e
        go_wp2_with fail
        go_quiet (fail)
        go_wp2
        go_roundw
        case rel => exact ⟨k + 1, by omega, by go_num, G.mono ((Old.refl wr).drewN _)⟩
        case measure => simp [intOf]; omega
end Go.Proofs.YtnmdpjedchaajaaDoor
