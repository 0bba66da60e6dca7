/-
  The document's own Stats of samples (offertoryref09): what it answers.
-/
import Derived.Test.YthaaajepolahfaaRefSame
import Derived.Test.YthaaajepolahfaaSsm
namespace Go.Proofs.Ythaaajepolahfaa
open Go.RowKit Pn Wd
set_option linter.unusedVariables false

/-- What lies in the world while stats are made: the plan, the answer, the bins, the stats, the sum, the squares. -/
structure S6 (w : World) (pl zs : List Value) (cs : List Int) (oc : List Value) (u v : List Nat) (wr : World) : Prop where
  pl : Row wr w.heap.size 24 pl
  res : Row wr (w.heap.size + 1) 29 zs
  bi : Row wr (w.heap.size + 1 + 1) 3 (ints cs)
  out : Row wr (w.heap.size + 1 + 1 + 1) 29 oc
  su : Row wr (w.heap.size + 1 + 1 + 1 + 1) 45 (nums .u32 u)
  sq : Row wr (w.heap.size + 1 + 1 + 1 + 1 + 1) 45 (nums .u32 v)
  old : Old w wr
section
variable {w : World} {pl zs : List Value} {cs : List Int} {oc : List Value} {u v : List Nat} {wr w' : World}
theorem S6.mono (h : S6 w pl zs cs oc u v wr) (o : Old wr w') : S6 w pl zs cs oc u v w' := ⟨h.pl.mono o, h.res.mono o, h.bi.mono o, h.out.mono o, h.su.mono o, h.sq.mono o, h.old.trans o⟩
theorem S6.bin (h : S6 w pl zs cs oc u v wr) (p : Nat) (z : Int) : S6 w pl zs (cs.set p z) oc u v (wr.setCell ⟨w.heap.size + 1 + 1, p, none⟩ (.int .i64 z)) := by
  have gr : wr.grownBy (wr.setCell ⟨w.heap.size + 1 + 1, p, none⟩ (.int .i64 z)) (some (w.heap.size + 1 + 1)) := grown_set _ _ _ _
  refine ⟨h.pl.grown gr (by omega), h.res.grown gr (by omega), ?_, h.out.grown gr (by omega), h.su.grown gr (by omega), h.sq.grown gr (by omega), h.old.grown gr (by omega)⟩
  rw [← ints_set]
  exact h.bi.set p _
theorem S6.sum (h : S6 w pl zs cs oc u v wr) (u' : List Nat) (hw : w' = wr.setRow (w.heap.size + 1 + 1 + 1 + 1) (nums .u32 u').toArray) : S6 w pl zs cs oc u' v w' := by
  subst hw
  have gr := grown_setRow wr (w.heap.size + 1 + 1 + 1 + 1) (nums .u32 u').toArray
  exact ⟨h.pl.grown gr (by omega), h.res.grown gr (by omega), h.bi.grown gr (by omega), h.out.grown gr (by omega), h.su.whole _, h.sq.grown gr (by omega), h.old.grown gr (by omega)⟩
theorem S6.squ (h : S6 w pl zs cs oc u v wr) (v' : List Nat) (hw : w' = wr.setRow (w.heap.size + 1 + 1 + 1 + 1 + 1) (nums .u32 v').toArray) : S6 w pl zs cs oc u v' w' := by
  subst hw
  have gr := grown_setRow wr (w.heap.size + 1 + 1 + 1 + 1 + 1) (nums .u32 v').toArray
  exact ⟨h.pl.grown gr (by omega), h.res.grown gr (by omega), h.bi.grown gr (by omega), h.out.grown gr (by omega), h.su.grown gr (by omega), h.sq.whole _, h.old.grown gr (by omega)⟩
theorem S6.set (h : S6 w pl zs cs oc u v wr) (i : Nat) (x : Value) : S6 w pl zs cs (oc.set i x) u v (wr.setCell ⟨w.heap.size + 1 + 1 + 1, i, none⟩ x) := by
  have gr : wr.grownBy (wr.setCell ⟨w.heap.size + 1 + 1 + 1, i, none⟩ x) (some (w.heap.size + 1 + 1 + 1)) := grown_set _ _ _ _
  exact ⟨h.pl.grown gr (by omega), h.res.grown gr (by omega), h.bi.grown gr (by omega), h.out.set i x, h.su.grown gr (by omega), h.sq.grown gr (by omega), h.old.grown gr (by omega)⟩
theorem S6.end_ (h : S6 w pl zs cs oc u v wr) (oc' : List Value) (hw : w' = wr.setRow (w.heap.size + 1) oc'.toArray) : Row w' (w.heap.size + 1) 29 oc' ∧ Row w' (w.heap.size + 1 + 1) 3 (ints cs) ∧ Old w w' := by
  subst hw
  have gr := grown_setRow wr (w.heap.size + 1) oc'.toArray
  exact ⟨h.res.whole _, h.bi.grown gr (by omega), h.old.grown gr (by omega)⟩
theorem S6.far (h : S6 w pl zs cs oc u v wr) {g : Nat} (gr : wr.grownBy w' (some g)) (hg : w.heap.size + 1 + 1 + 1 + 1 + 1 < g) : S6 w pl zs cs oc u v w' :=
  ⟨h.pl.grown gr (by omega), h.res.grown gr (by omega), h.bi.grown gr (by omega), h.out.grown gr (by omega), h.su.grown gr (by omega), h.sq.grown gr (by omega), h.old.grown gr (by omega)⟩
theorem row_new {w : World} {g : Nat} (t : TypeId) (vs : List Value) (h : g = w.heap.size) : Row (w.alloc (.cells vs.toArray t)) g t vs := by subst h; exact Row.new _ _ _
theorem S6.start (w : World) (pl zs : List Value) (cs : List Int) (oc : List Value) (u v : List Nat) : S6 w pl zs cs oc u v ((((((w.alloc (.cells pl.toArray 24)).alloc (.cells zs.toArray 29)).alloc (.cells (ints cs).toArray 3)).alloc (.cells oc.toArray 29)).alloc (.cells (nums .u32 u).toArray 45)).alloc (.cells (nums .u32 v).toArray 45)) := by
  refine ⟨?_, ?_, ?_, ?_, ?_, ?_, ?_⟩
  · exact (row_new _ _ rfl).mono (((((Old.of_alloc _ _).alloc _).alloc _).alloc _).alloc _)
  · exact (row_new _ _ (by simp only [World.size_alloc])).mono ((((Old.of_alloc _ _).alloc _).alloc _).alloc _)
  · exact (row_new _ _ (by simp only [World.size_alloc])).mono (((Old.of_alloc _ _).alloc _).alloc _)
  · exact (row_new _ _ (by simp only [World.size_alloc])).mono ((Old.of_alloc _ _).alloc _)
  · exact (row_new _ _ (by simp only [World.size_alloc])).mono (Old.of_alloc _ _)
  · exact row_new _ _ (by simp only [World.size_alloc])
  · exact (((((Old.of_alloc _ _).alloc _).alloc _).alloc _).alloc _).alloc _
end
def stz : List Value := [.slice none 0 0, .int .i64 0, .int .u64 0, .int .u64 0, .int .u64 0, .int .u64 0, .bool false]
theorem big_zero : bigL (zN 0) = z8 := by decide +kernel

set_option maxRecDepth 100000 in
set_option maxHeartbeats 8000000 in
theorem refStats13_any {lo hi mo : Int} {a : Option Addr} {n : Nat} {es : List Int} (cap : Nat) (b : Option Addr) (k ck : Nat) (xs : List Int) (w : World) (F : Fit w lo hi mo a n es) (hs : soundZ lo hi mo es = 0) (S : Sam w b k xs) :
    Calls Try.prog 12 #[pv lo hi mo a n cap, .slice b k ck] w fun e w' => ∃ g, w.heap.size ≤ g ∧ e = .returned (sv (SV.of k (sumZ lo hi xs) (zN (sqZ lo hi xs))) (some ⟨g, 0, none⟩) (n + 1) (n + 1)) ∧ Row w' g 3 (ints (cntL lo hi es xs)) ∧ Old w w' := by
  obtain ⟨h1, _, h3⟩ := sound_of hs
  unfold bad1 at h1
  have h4 := F.len
  have n64 : n ≤ 64 := by unfold bad3 at h3; omega
  have C3 := hide (fun (x : Int) (wr : World) (h : Fit wr lo hi mo a n es) => refBin11_any cap x wr h)
  have C4 := hide (fun (x : Int) (wr : World) => refClamp10_any (lo := lo) (hi := hi) (mo := mo) (a := a) (n := n) cap x wr)
  have HC : Hid (∀ x : Int, -1099511627776 ≤ clampZ lo hi x ∧ clampZ lo hi x ≤ 1099511627776) := fun x => by
    have := clampZ_in (lo := lo) (hi := hi) (x := x) (by omega)
    omega
  have HB := hide (sumZ_bound (lo := lo) (hi := hi) (by omega) (by omega) (by omega) xs)
  have HF := hide F
  have HS := hide S
  have HE := hide h4
  have HK := hide (And.intro S.len S.small)
  have MK : ∀ w : World, (Instr.makeSlice 22 (.int .i64 ((n : Int) + 1)) (.int .i64 ((n : Int) + 1))).run Try.prog w = .ok (.slice (some ⟨w.heap.size, 0, none⟩) (n + 1) (n + 1)) (w.alloc (.cells (ints (List.replicate (n + 1) 0)).toArray 3)) := make_ints (n + 1) (by omega)
  have b3 : (n : Int) ≤ 64 := by omega
  unfold pv at C3 C4 ⊢
  obtain ⟨OC, hOC⟩ : ∃ OC : List Value, OC = [.slice (some ⟨w.heap.size + 1 + 1, 0, none⟩) (n + 1) (n + 1), .int .i64 (k : Int), .int .u64 0, .int .u64 0, .int .u64 0, .int .u64 0, .bool false] := ⟨_, rfl⟩
  have EN0 := hide (S6.start w [.int .i64 lo, .int .i64 hi, .int .i64 mo, .slice a n cap] stz (List.replicate (n + 1) 0) OC z8 z8)
  have HO := hide hOC
  rw [hOC] at EN0
  clear h1 h3 h4 hs F S n64 hOC
  go_enter Try.func12, Try.ntmps12
  go_wp2_with fail
  clear MK
  go_loopw [8, 9] (fun vi _ wr => ∃ i : Nat, i ≤ k ∧ vi = .int .i64 (i : Int) ∧ Hid (S6 w [.int .i64 lo, .int .i64 hi, .int .i64 mo, .slice a n cap] stz (cntL lo hi es (xs.take i)) OC (bigL (zN (sumZ lo hi (xs.take i)))) (bigL (zN (sqZ lo hi (xs.take i)))) wr)) (fun vi _ _ => k - (intOf vi).toNat)
  case atStart =>
    refine ⟨0, Nat.zero_le _, rfl, ?_⟩
    rw [Hid, List.take_zero, cntL_nil, HE.out, HO.out, show sumZ lo hi [] = 0 from rfl, show sqZ lo hi [] = 0 from rfl, big_zero]
    exact EN0.out
  case round =>
    clear EN0
    obtain ⟨i, hi', rfl, R⟩ := hrel
    by_cases hl : i < k
    · have t3 : decide (i < k) = true := by simpa using hl
      have t3' : decide ((i : Int) < (k : Int)) = true := by simp; omega
      obtain ⟨b', off, rfl, _⟩ := rd_int HS.out.rd (i := i) (by rw [HK.out.1]; exact hl)
      obtain ⟨x, hx⟩ : ∃ x, x = xs.getD i 0 := ⟨_, rfl⟩
      obtain ⟨p, hp⟩ : ∃ p, p = binX lo hi es x := ⟨_, rfl⟩
      have pl : p ≤ n := by rw [hp, ← HE.out]; exact binX_le _ _ _ _
      have NT : Hid (xs.take (i + 1) = xs.take i ++ [x]) := by
        have hil : i < xs.length := by rw [HK.out.1]; exact hl
        show xs.take (i + 1) = _
        rw [List.take_add_one, List.getElem?_eq_getElem hil, Option.toList_some, hx]
        simp [List.getD, hil]
      have NB := hide (cntL_add lo hi es (xs.take i) x)
      have CL := hide (cntL_length lo hi es (xs.take i))
      have CB := hide (cntL_bound lo hi es (xs.take i) p)
      have TL : Hid ((xs.take i).length ≤ i) := by rw [Hid, List.length_take]; omega
      have N1 := hide (sumZ_snoc lo hi (xs.take i) x)
      have N2 := hide (sqZ_snoc lo hi (xs.take i) x)
      rw [← NT.out] at NB N1 N2
      rw [← hp] at NB
      rw [HE.out] at CL
      have C5 := hide (C3.out x)
      rw [← hp] at C5
      have C6 := hide (C4.out x)
      have HX := hide hx
      have HXC := HC.out x
      obtain ⟨c, hc⟩ : ∃ c, c = clampZ lo hi x := ⟨_, rfl⟩
      rw [← hc] at N1 N2 C6 HXC
      have CI := hide (fun wr : World => refInt13_any c (by unfold B64; omega) wr)
      revert R NB CL CB N1 N2
      generalize cntL lo hi es (xs.take i) = cs
      generalize sumZ lo hi (xs.take i) = s
      generalize sqZ lo hi (xs.take i) = q
      intro R NB CL CB N1 N2
      obtain ⟨z, hz⟩ : ∃ z, z = cs.getD p 0 := ⟨_, rfl⟩
      rw [← hz] at NB CB
      have HZ := hide hz
      clear hx hp hz hc HXC
      unfold bv at CI
      go_wp2_with fail
      refine Ssz.region (Ext := Old) 12 (fun w' => S6 w [.int .i64 lo, .int .i64 hi, .int .i64 mo, .slice a n cap] stz cs OC (bigL (zN s)) (bigL (zN q)) w') (Ssz.Apart []) [26, 27, 28, 29, 30, 31, 32, 33, 34, 35, 36, 37]
        [(26, Ssx.cst (.pointer (some ⟨w.heap.size + 1 + 1 + 1, 0, none⟩))), (27, Ssx.cst (.slice (some ⟨w.heap.size + 1 + 1, 0, none⟩) (n + 1) (n + 1))), (28, Ssx.cst (.agg #[.int .i64 lo, .int .i64 hi, .int .i64 mo, .slice a n cap])), (29, Ssx.cst (.slice (some ⟨b', off, none⟩) k ck)), (30, Ssx.cst (.int .i64 (i : Int))), (31, Ssx.cst (.pointer (some ⟨b', off + i, none⟩))), (32, Ssx.cst (.int .i64 x)), (33, Ssx.cst (.int .i64 (p : Int))), (34, Ssx.cst (.pointer (some ⟨w.heap.size + 1 + 1, 0 + p, none⟩))), (35, Ssx.cst (.int .i64 z)), (36, Ssx.cst (.int .i64 (z + 1))), (37, Ssx.cst (.pointer (some ⟨w.heap.size + 1 + 1, 0 + p, none⟩)))]
        [] (by kernel_rfl) (by kernel_rfl) (by kernel_rfl) (by simp) (by kernel_rfl) (by intro p hp; cases hp) (by kernel_rfl) (by kernel_rfl) Old.refl (R.out.mono (Old.of_drewN _ _)) ?apart ?good ?behind
      case apart => exact ⟨fun s hs => by simp at hs, fun s hs => by simp at hs⟩
      case good =>
        have hE : ∀ w w' : World, Old w w' → w.heap.size ≤ w'.heap.size := fun _ _ h => h.size
        refine And.intro (.inr ⟨by kernel_rfl, Ssz.keep (Ssx.val1 Old.refl (x := 5) (.pointer (some ⟨w.heap.size + 1 + 1 + 1, 0, none⟩)) (by simp [Op.operands]) rfl (fun _ _ h => h) (fun ρ h1 hc w => by unfold execOp; simp [h1, go_sem]) (fun _ => rfl)) hE (by kernel_rfl)⟩) ?_
        refine And.intro (.inr ⟨by kernel_rfl, Ssz.keep (Ssy.cell Old.refl rfl rfl (⟨w.heap.size + 1 + 1 + 1, 0, none⟩) (.slice (some ⟨w.heap.size + 1 + 1, 0, none⟩) (n + 1) (n + 1)) (fun _ _ h => h) (fun _ h => h.out.cell (i := 0) (by rw [HO.out]; rfl)) Try.underlying22 rfl (fun _ => rfl)) hE (by kernel_rfl)⟩) ?_
        refine And.intro (.inr ⟨by kernel_rfl, Ssz.keep (Ssx.whole Old.refl rfl rfl (w.heap.size) ([.int .i64 lo, .int .i64 hi, .int .i64 mo, .slice a n cap]) (fun _ _ h => h) (fun _ h => h.pl.rngX) Try.underlying24 rfl infoPl (fun _ => rfl)) hE (by kernel_rfl)⟩) ?_
        refine And.intro (.inr ⟨by kernel_rfl, Ssz.keep (Ssx.mv Old.refl rfl rfl (fun _ _ h => h)) hE (by kernel_rfl)⟩) ?_
        refine And.intro (.inr ⟨by kernel_rfl, Ssz.keep (Ssx.mv Old.refl rfl rfl (fun _ _ h => h)) hE (by kernel_rfl)⟩) ?_
        refine And.intro (.inr ⟨by kernel_rfl, Ssz.keep (el Old.refl rfl rfl (b') (off) (i) (n := k) (cap := ck) (fun _ _ h => h) (fun _ _ h => h) (hl) Try.underlying22 (by kernel_rfl) (fun _ => rfl)) hE (by kernel_rfl)⟩) ?_
        refine And.intro (.inr ⟨by kernel_rfl, Ssz.keep (Ssy.cell Old.refl rfl rfl (⟨b', off + i, none⟩) (.int .i64 x) (fun _ _ h => h) (fun _ h => by rw [HX.out]; exact rd_at (HS.out.mono h.old).rd (by rw [HK.out.1]; exact hl)) Try.underlying3 rfl (fun _ => rfl)) hE (by kernel_rfl)⟩) ?_
        refine And.intro (.inr ⟨by kernel_rfl, Ssz.keep (Ssx.call rfl fun a' w' hC hop => ⟨28, #[.agg #[.int .i64 lo, .int .i64 hi, .int .i64 mo, .slice a n cap], .int .i64 x], ?_, (C5.out w' (HF.out.mono hC.old)).mono fun _ _ ⟨h1, h2⟩ => ⟨_, h1, hC.mono h2, h2, rfl⟩⟩) hE (by kernel_rfl)⟩) ?_
        · have h0 : a'.eval (.tmp 28) = .agg #[.int .i64 lo, .int .i64 hi, .int .i64 mo, .slice a n cap] := hop 28 (by simp [Op.operands, Call.operands])
          have h1 : a'.eval (.tmp 32) = .int .i64 x := hop 32 (by simp [Op.operands, Call.operands])
          simp [Act.eval] at h0 h1
          simp [h0, h1, go_sem]
        refine And.intro (.inr ⟨by kernel_rfl, Ssz.keep (el Old.refl rfl rfl (w.heap.size + 1 + 1) (0) (p) (n := n + 1) (cap := n + 1) (fun _ _ h => h) (fun _ _ h => h) (by omega) Try.underlying22 (by kernel_rfl) (fun _ => rfl)) hE (by kernel_rfl)⟩) ?_
        refine And.intro (.inr ⟨by kernel_rfl, Ssz.keep (Ssy.cell Old.refl rfl rfl (⟨w.heap.size + 1 + 1, 0 + p, none⟩) (.int .i64 z) (fun _ _ h => h) (fun _ h => by rw [Nat.zero_add, HZ.out]; exact row_at h.bi (by rw [CL.out]; omega)) Try.underlying3 rfl (fun _ => rfl)) hE (by kernel_rfl)⟩) ?_
        refine And.intro (.inr ⟨by kernel_rfl, Ssz.keep (addc Old.refl rfl rfl Try.underlying3 z (by have := CB.out; have := TL.out; have := HK.out.2; omega) (fun _ _ h => h) (fun _ => rfl)) hE (by kernel_rfl)⟩) ?_
        refine And.intro (.inr ⟨by kernel_rfl, Ssz.keep (el Old.refl rfl rfl (w.heap.size + 1 + 1) (0) (p) (n := n + 1) (cap := n + 1) (fun _ _ h => h) (fun _ _ h => h) (by omega) Try.underlying22 (by kernel_rfl) (fun _ => rfl)) hE (by kernel_rfl)⟩) ?_
        exact trivial
      case behind =>
        intro vals wb hC hD hv
        have v26 : vals 26 = _ := hv _ (.head _)
        have v27 : vals 27 = _ := hv _ (.tail _ (.head _))
        have v28 : vals 28 = _ := hv _ (.tail _ (.tail _ (.head _)))
        have v29 : vals 29 = _ := hv _ (.tail _ (.tail _ (.tail _ (.head _))))
        have v30 : vals 30 = _ := hv _ (.tail _ (.tail _ (.tail _ (.tail _ (.head _)))))
        have v31 : vals 31 = _ := hv _ (.tail _ (.tail _ (.tail _ (.tail _ (.tail _ (.head _))))))
        have v32 : vals 32 = _ := hv _ (.tail _ (.tail _ (.tail _ (.tail _ (.tail _ (.tail _ (.head _)))))))
        have v33 : vals 33 = _ := hv _ (.tail _ (.tail _ (.tail _ (.tail _ (.tail _ (.tail _ (.tail _ (.head _))))))))
        have v34 : vals 34 = _ := hv _ (.tail _ (.tail _ (.tail _ (.tail _ (.tail _ (.tail _ (.tail _ (.tail _ (.head _)))))))))
        have v35 : vals 35 = _ := hv _ (.tail _ (.tail _ (.tail _ (.tail _ (.tail _ (.tail _ (.tail _ (.tail _ (.tail _ (.head _))))))))))
        have v36 : vals 36 = _ := hv _ (.tail _ (.tail _ (.tail _ (.tail _ (.tail _ (.tail _ (.tail _ (.tail _ (.tail _ (.tail _ (.head _)))))))))))
        have v37 : vals 37 = _ := hv _ (.tail _ (.tail _ (.tail _ (.tail _ (.tail _ (.tail _ (.tail _ (.tail _ (.tail _ (.tail _ (.tail _ (.head _))))))))))))
        simp only [Ssa.putAll, List.map_cons, List.map_nil, List.foldl_cons, List.foldl_nil, List.setIfInBounds_toArray, List.set_cons_succ, List.set_cons_zero, v26, v27, v28, v29, v30, v31, v32, v33, v34, v35, v36, v37, List.drop_succ_cons, List.drop_zero, Nat.zero_add]
        have cz : wb.cell? ⟨w.heap.size + 1 + 1, p, none⟩ = some (.int .i64 z) := by rw [HZ.out]; exact row_at hC.bi (by rw [CL.out]; omega)
        have fz := hC.bi.free p
        have R1 := hide (hC.bin p (z + 1))
        rw [← NB.out] at R1
        clear hC hD hv v26 v27 v28 v29 v30 v31 v32 v33 v34 v35 v36 v37 R C5 HZ NB CB CL
        go_wp2_with fail
        clear cz fz
        revert R1
        generalize (World.setCell wb ⟨w.heap.size + 1 + 1, p, none⟩ (.int .i64 (z + 1))) = wc
        generalize hcs : cntL lo hi es (xs.take (i + 1)) = cs'
        intro R1
        have HCS := hide hcs
        clear hcs
        refine Ssz.region (Ext := Old) 8 (fun w' => S6 w [.int .i64 lo, .int .i64 hi, .int .i64 mo, .slice a n cap] stz cs' OC (bigL (zN s)) (bigL (zN q)) w') (Ssz.Apart []) [38, 39, 40, 41, 42, 43, 44, 9]
          [(38, Ssx.cst (.agg #[.int .i64 lo, .int .i64 hi, .int .i64 mo, .slice a n cap])), (39, Ssx.cst (.slice (some ⟨b', off, none⟩) k ck)), (40, Ssx.cst (.int .i64 (i : Int))), (41, Ssx.cst (.pointer (some ⟨b', off + i, none⟩))), (42, Ssx.cst (.int .i64 x)), (43, Ssx.cst (.int .i64 c)), (44, Ssx.cst (.agg (nums .u32 (bigL (zN c))).toArray)), (9, (⟨fun v w' => ∃ g, v = .pointer (some ⟨g, 0, none⟩) ∧ w.heap.size + 1 + 1 + 1 + 1 + 1 < g ∧ Row w' g 45 (nums .u32 z8), fun _ _ _ ⟨g, h1, h2, h3⟩ o => ⟨g, h1, h2, h3.mono o⟩⟩ : Ssx.XP Old))]
          [] (by kernel_rfl) (by kernel_rfl) (by kernel_rfl) (by simp) (by kernel_rfl) (by intro p hp; cases hp) (by kernel_rfl) (by kernel_rfl) Old.refl (R1.out.mono (Old.of_drewN _ _)) ?apart ?good ?behind
        case apart => exact ⟨fun s hs => by simp at hs, fun s hs => by simp at hs⟩
        case good =>
          have hE : ∀ w w' : World, Old w w' → w.heap.size ≤ w'.heap.size := fun _ _ h => h.size
          refine And.intro (.inr ⟨by kernel_rfl, Ssz.keep (Ssx.whole Old.refl rfl rfl (w.heap.size) ([.int .i64 lo, .int .i64 hi, .int .i64 mo, .slice a n cap]) (fun _ _ h => h) (fun _ h => h.pl.rngX) Try.underlying24 rfl infoPl (fun _ => rfl)) hE (by kernel_rfl)⟩) ?_
          refine And.intro (.inr ⟨by kernel_rfl, Ssz.keep (Ssx.mv Old.refl rfl rfl (fun _ _ h => h)) hE (by kernel_rfl)⟩) ?_
          refine And.intro (.inr ⟨by kernel_rfl, Ssz.keep (Ssx.mv Old.refl rfl rfl (fun _ _ h => h)) hE (by kernel_rfl)⟩) ?_
          refine And.intro (.inr ⟨by kernel_rfl, Ssz.keep (el Old.refl rfl rfl (b') (off) (i) (n := k) (cap := ck) (fun _ _ h => h) (fun _ _ h => h) (hl) Try.underlying22 (by kernel_rfl) (fun _ => rfl)) hE (by kernel_rfl)⟩) ?_
          refine And.intro (.inr ⟨by kernel_rfl, Ssz.keep (Ssy.cell Old.refl rfl rfl (⟨b', off + i, none⟩) (.int .i64 x) (fun _ _ h => h) (fun _ h => by rw [HX.out]; exact rd_at (HS.out.mono h.old).rd (by rw [HK.out.1]; exact hl)) Try.underlying3 rfl (fun _ => rfl)) hE (by kernel_rfl)⟩) ?_
          refine And.intro (.inr ⟨by kernel_rfl, Ssz.keep (Ssx.call rfl fun a' w' hC hop => ⟨30, #[.agg #[.int .i64 lo, .int .i64 hi, .int .i64 mo, .slice a n cap], .int .i64 x], ?_, (C6.out w').mono fun _ _ ⟨h1, h2⟩ => ⟨_, h1, hC.mono h2, h2, rfl⟩⟩) hE (by kernel_rfl)⟩) ?_
          · have h0 : a'.eval (.tmp 38) = .agg #[.int .i64 lo, .int .i64 hi, .int .i64 mo, .slice a n cap] := hop 38 (by simp [Op.operands, Call.operands])
            have h1 : a'.eval (.tmp 42) = .int .i64 x := hop 42 (by simp [Op.operands, Call.operands])
            simp [Act.eval] at h0 h1
            simp [h0, h1, go_sem]
          refine And.intro (.inr ⟨by kernel_rfl, Ssz.keep (Ssx.call rfl fun a' w' hC hop => ⟨29, #[.int .i64 c], ?_, (CI.out w').mono fun _ _ ⟨h1, h2⟩ => ⟨_, h1, hC.mono h2, h2, rfl⟩⟩) hE (by kernel_rfl)⟩) ?_
          · have h0 : a'.eval (.tmp 43) = .int .i64 c := hop 43 (by simp [Op.operands, Call.operands])
            simp [Act.eval] at h0
            simp [h0, go_sem]
          refine And.intro (.inr ⟨by kernel_rfl, Ssz.alloc (zs := nums .u32 z8) rfl rfl (fun w => by kernel_rfl) (fun _ h => h.mono (Old.of_alloc _ _)) (fun w => Old.of_alloc _ _) (fun v h => ⟨_, rfl, h.sq.lt, Row.new _ _ _⟩)⟩) ?_
          exact trivial
        case behind =>
          intro vals wb hC hD hv
          have u38 : vals 38 = _ := hv _ (.head _)
          have u39 : vals 39 = _ := hv _ (.tail _ (.head _))
          have u40 : vals 40 = _ := hv _ (.tail _ (.tail _ (.head _)))
          have u41 : vals 41 = _ := hv _ (.tail _ (.tail _ (.tail _ (.head _))))
          have u42 : vals 42 = _ := hv _ (.tail _ (.tail _ (.tail _ (.tail _ (.head _)))))
          have u43 : vals 43 = _ := hv _ (.tail _ (.tail _ (.tail _ (.tail _ (.tail _ (.head _))))))
          have u44 : vals 44 = _ := hv _ (.tail _ (.tail _ (.tail _ (.tail _ (.tail _ (.tail _ (.head _)))))))
          have u9 := hv _ (.tail _ (.tail _ (.tail _ (.tail _ (.tail _ (.tail _ (.tail _ (.head _))))))))
          obtain ⟨g9, hg9, lt9, Z9⟩ := u9
          simp only [Ssa.putAll, List.map_cons, List.map_nil, List.foldl_cons, List.foldl_nil, List.setIfInBounds_toArray, List.set_cons_succ, List.set_cons_zero, u38, u39, u40, u41, u42, u43, u44, hg9, List.drop_succ_cons, List.drop_zero]
          go_wp2_with (refine wp_store_whole rfl 45 _ _ rfl g9 rfl (nums .u32 (bigL (zN c))) rfl Z9 (info8 (bigL_length _)) (by rw [nums_length, nums_length, bigL_length]; rfl) (nums_oneCell _ _) ?_; rintro w7 h7
                       have Q7 : Hid (S6 w [.int .i64 lo, .int .i64 hi, .int .i64 mo, .slice a n cap] stz cs' OC (bigL (zN s)) (bigL (zN q)) w7 ∧ Row w7 g9 45 (nums .u32 (bigL (zN c)))) := by
                         subst h7
                         exact ⟨hC.far (grown_setRow _ _ _) lt9, Z9.whole _⟩
                       clear h7)
          clear hC hD hv Z9 lt9 hg9 u38 u39 u40 u41 u42 u43 u44 R1 CI C6
          clear vals wb
          have CA := hide (fun wr : World => refAdd9_any (zN s) (zN c) wr)
          have CM := hide (fun wr : World => refMul9_any (zN c) (zN c) wr)
          have CB := hide (fun wr : World => refAdd9_any (zN q) (zN c * zN c) wr)
          unfold bv at CA CM CB
          go_wp2_with fail
          refine Ssz.region (Ext := Old) 8 (fun w' => S6 w [.int .i64 lo, .int .i64 hi, .int .i64 mo, .slice a n cap] stz cs' OC (bigL (zN s)) (bigL (zN q)) w' ∧ Row w' g9 45 (nums .u32 (bigL (zN c)))) (Ssz.Apart []) [45, 46, 47, 48, 49, 50, 51, 52]
            [(45, Ssx.cst (.agg (nums .u32 (bigL (zN s))).toArray)), (46, Ssx.cst (.agg (nums .u32 (bigL (zN c))).toArray)), (47, Ssx.cst (.agg (nums .u32 (bigL (zN s + zN c))).toArray)), (48, Ssx.cst (.agg (nums .u32 (bigL (zN q))).toArray)), (49, Ssx.cst (.agg (nums .u32 (bigL (zN c))).toArray)), (50, Ssx.cst (.agg (nums .u32 (bigL (zN c))).toArray)), (51, Ssx.cst (.agg (nums .u32 (bigL (zN c * zN c))).toArray)), (52, Ssx.cst (.agg (nums .u32 (bigL (zN q + zN c * zN c))).toArray))]
            [] (by kernel_rfl) (by kernel_rfl) (by kernel_rfl) (by simp) (by kernel_rfl) (by intro p hp; cases hp) (by kernel_rfl) (by kernel_rfl) Old.refl (⟨Q7.out.1.mono (Old.of_drewN _ _), Q7.out.2.mono (Old.of_drewN _ _)⟩) ?apart ?good ?behind
          case apart => exact ⟨fun s hs => by simp at hs, fun s hs => by simp at hs⟩
          case good =>
            have hE : ∀ w w' : World, Old w w' → w.heap.size ≤ w'.heap.size := fun _ _ h => h.size
            refine And.intro (.inr ⟨by kernel_rfl, Ssz.keep (Ssx.whole Old.refl rfl rfl (w.heap.size + 1 + 1 + 1 + 1) (nums .u32 (bigL (zN s))) (fun _ _ h => h) (fun _ h => h.1.su.rngX) Try.underlying45 rfl (info8 (bigL_length _)) (fun _ => rfl)) hE (by kernel_rfl)⟩) ?_
            refine And.intro (.inr ⟨by kernel_rfl, Ssz.keep (Ssx.whole Old.refl rfl rfl (g9) (nums .u32 (bigL (zN c))) (fun _ _ h => h) (fun _ h => h.2.rngX) Try.underlying45 rfl (info8 (bigL_length _)) (fun _ => rfl)) hE (by kernel_rfl)⟩) ?_
            refine And.intro (.inr ⟨by kernel_rfl, Ssz.keep (Ssx.call rfl fun a' w' hC hop => ⟨31, #[.agg (nums .u32 (bigL (zN s))).toArray, .agg (nums .u32 (bigL (zN c))).toArray], ?_, (CA.out w').mono fun _ _ ⟨h1, h2⟩ => ⟨_, h1, ⟨hC.1.mono h2, hC.2.mono h2⟩, h2, rfl⟩⟩) hE (by kernel_rfl)⟩) ?_
            · have h0 : a'.eval (.tmp 45) = .agg (nums .u32 (bigL (zN s))).toArray := hop 45 (by simp [Op.operands, Call.operands])
              have h1 : a'.eval (.tmp 46) = .agg (nums .u32 (bigL (zN c))).toArray := hop 46 (by simp [Op.operands, Call.operands])
              simp [Act.eval] at h0 h1
              simp [h0, h1, go_sem]
            refine And.intro (.inr ⟨by kernel_rfl, Ssz.keep (Ssx.whole Old.refl rfl rfl (w.heap.size + 1 + 1 + 1 + 1 + 1) (nums .u32 (bigL (zN q))) (fun _ _ h => h) (fun _ h => h.1.sq.rngX) Try.underlying45 rfl (info8 (bigL_length _)) (fun _ => rfl)) hE (by kernel_rfl)⟩) ?_
            refine And.intro (.inr ⟨by kernel_rfl, Ssz.keep (Ssx.whole Old.refl rfl rfl (g9) (nums .u32 (bigL (zN c))) (fun _ _ h => h) (fun _ h => h.2.rngX) Try.underlying45 rfl (info8 (bigL_length _)) (fun _ => rfl)) hE (by kernel_rfl)⟩) ?_
            refine And.intro (.inr ⟨by kernel_rfl, Ssz.keep (Ssx.whole Old.refl rfl rfl (g9) (nums .u32 (bigL (zN c))) (fun _ _ h => h) (fun _ h => h.2.rngX) Try.underlying45 rfl (info8 (bigL_length _)) (fun _ => rfl)) hE (by kernel_rfl)⟩) ?_
            refine And.intro (.inr ⟨by kernel_rfl, Ssz.keep (Ssx.call rfl fun a' w' hC hop => ⟨19, #[.agg (nums .u32 (bigL (zN c))).toArray, .agg (nums .u32 (bigL (zN c))).toArray], ?_, (CM.out w').mono fun _ _ ⟨h1, h2⟩ => ⟨_, h1, ⟨hC.1.mono h2, hC.2.mono h2⟩, h2, rfl⟩⟩) hE (by kernel_rfl)⟩) ?_
            · have h0 : a'.eval (.tmp 49) = .agg (nums .u32 (bigL (zN c))).toArray := hop 49 (by simp [Op.operands, Call.operands])
              have h1 : a'.eval (.tmp 50) = .agg (nums .u32 (bigL (zN c))).toArray := hop 50 (by simp [Op.operands, Call.operands])
              simp [Act.eval] at h0 h1
              simp [h0, h1, go_sem]
            refine And.intro (.inr ⟨by kernel_rfl, Ssz.keep (Ssx.call rfl fun a' w' hC hop => ⟨31, #[.agg (nums .u32 (bigL (zN q))).toArray, .agg (nums .u32 (bigL (zN c * zN c))).toArray], ?_, (CB.out w').mono fun _ _ ⟨h1, h2⟩ => ⟨_, h1, ⟨hC.1.mono h2, hC.2.mono h2⟩, h2, rfl⟩⟩) hE (by kernel_rfl)⟩) ?_
            · have h0 : a'.eval (.tmp 48) = .agg (nums .u32 (bigL (zN q))).toArray := hop 48 (by simp [Op.operands, Call.operands])
              have h1 : a'.eval (.tmp 51) = .agg (nums .u32 (bigL (zN c * zN c))).toArray := hop 51 (by simp [Op.operands, Call.operands])
              simp [Act.eval] at h0 h1
              simp [h0, h1, go_sem]
            exact trivial
          case behind =>
            intro vals wb hC hD hv
            have y45 : vals 45 = _ := hv _ (.head _)
            have y46 : vals 46 = _ := hv _ (.tail _ (.head _))
            have y47 : vals 47 = _ := hv _ (.tail _ (.tail _ (.head _)))
            have y48 : vals 48 = _ := hv _ (.tail _ (.tail _ (.tail _ (.head _))))
            have y49 : vals 49 = _ := hv _ (.tail _ (.tail _ (.tail _ (.tail _ (.head _)))))
            have y50 : vals 50 = _ := hv _ (.tail _ (.tail _ (.tail _ (.tail _ (.tail _ (.head _))))))
            have y51 : vals 51 = _ := hv _ (.tail _ (.tail _ (.tail _ (.tail _ (.tail _ (.tail _ (.head _)))))))
            have y52 : vals 52 = _ := hv _ (.tail _ (.tail _ (.tail _ (.tail _ (.tail _ (.tail _ (.tail _ (.head _))))))))
            simp only [Ssa.putAll, List.map_cons, List.map_nil, List.foldl_cons, List.foldl_nil, List.setIfInBounds_toArray, List.set_cons_succ, List.set_cons_zero, y45, y46, y47, y48, y49, y50, y51, y52, List.drop_succ_cons, List.drop_zero]
            have Q8 := hide hC.1
            clear hC hD hv Q7 y45 y46 y47 y48 y49 y50 y51 y52 CA CM CB
            clear vals
            go_wp2_with (first
              | (refine wp_store_whole rfl 45 _ _ rfl (w.heap.size + 1 + 1 + 1 + 1) rfl (nums .u32 (bigL (zN s + zN c))) rfl Q8.out.su (info8 (bigL_length _)) (by rw [nums_length, nums_length, bigL_length, bigL_length]) (nums_oneCell _ _) ?_; rintro w8 h8
                 have Q9 := hide (Q8.out.sum _ h8)
                 clear h8 Q8)
              | (refine wp_store_whole rfl 45 _ _ rfl (w.heap.size + 1 + 1 + 1 + 1 + 1) rfl (nums .u32 (bigL (zN q + zN c * zN c))) rfl Q9.out.sq (info8 (bigL_length _)) (by rw [nums_length, nums_length, bigL_length, bigL_length]) (nums_oneCell _ _) ?_; rintro w9 h9
                 have QA := hide (Q9.out.squ _ h9)
                 clear h9 Q9))
            have iw : wrap64 ((i : Int) + 1) = ((i + 1 : Nat) : Int) := by have := HK.out.2; unfold wrap64; omega
            rw [iw]
            refine ⟨⟨i + 1, by omega, rfl, ?_⟩, by simp [intOf]; omega⟩
            rw [N1.out, N2.out, ← big_add, ← big_sq, HCS.out]
            exact QA
    · obtain rfl : i = k := by omega
      have t3 : decide (i < i) = false := by simp
      have t3' : decide ((i : Int) < (i : Int)) = false := by simp
      have e1 : xs.take i = xs := List.take_of_length_le (by rw [HK.out.1]; exact Nat.le_refl _)
      rw [e1, HO.out] at R
      have CS := hide (fun wr : World => refSigned13_any (sumZ lo hi xs) (by have := HB.out.1; have := HK.out; omega) (by have := HB.out.2; have := HK.out; omega) wr)
      have CW := hide (fun wr : World => refWide9_any (zN (sqZ lo hi xs)) wr)
      have CX := hide (fun wr : World => refWide9_any (sumZ lo hi xs).natAbs wr)
      unfold bv at CS CW CX
      unfold wv at CW CX
      clear e1 HB HC C3 C4 HF HS HE HO hl
      obtain ⟨s, hs⟩ : ∃ s, s = sumZ lo hi xs := ⟨_, rfl⟩
      obtain ⟨q, hq⟩ : ∃ q, q = zN (sqZ lo hi xs) := ⟨_, rfl⟩
      rw [← hs] at R CS CX
      rw [← hq] at R CW
      have HSQ := hide (And.intro hs hq)
      clear hs hq
      have HH := hide (And.intro (hi_lt q) (lo_lt q))
      go_wp2_with (refine wp_load_whole rfl 45 _ rfl (w.heap.size + 1 + 1 + 1 + 1 + 1) rfl R.out.sq Try.underlying45 rfl (info8 (bigL_length _)) ?_)
      refine (CW.out _).mono ?_
      rintro e w1 ⟨rfl, o1⟩
      have R1 := hide (R.out.mono o1)
      clear R o1
      have R2 := hide ((R1.out.set 4 (.int .u64 (Wd.hi q : Nat))).set 5 (.int .u64 (Wd.lo q : Nat)))
      have c4 := R1.out.out.cell (i := 4) rfl
      have c5 := R1.out.out.cell (i := 5) rfl
      have f4 := R1.out.out.free 4
      have f5 := R1.out.out.free 5
      go_wp2_with (refine wp_load_whole rfl 45 _ rfl (w.heap.size + 1 + 1 + 1 + 1) rfl R2.out.su Try.underlying45 rfl (info8 (bigL_length _)) ?_)
      refine (CS.out _).mono ?_
      rintro e w2 ⟨rfl, o2⟩
      have R3 := hide (R2.out.mono o2)
      clear R1 R2 o2 c4 c5 f4 f5
      go_wp2_with (first
        | (refine wp_store_whole rfl 45 _ _ rfl (w.heap.size + 1 + 1 + 1 + 1) rfl (nums .u32 (bigL s.natAbs)) rfl R3.out.su (info8 (bigL_length _)) (by rw [nums_length, nums_length, bigL_length, bigL_length]) (nums_oneCell _ _) ?_; rintro w8 h8
           have R4 := hide (R3.out.sum _ h8)
           clear h8 R3
           have c6 := R4.out.out.cell (i := 6) rfl
           have f6 := R4.out.out.free 6
           have R5 := hide (R4.out.set 6 (.bool (decide (s < 0)))))
        | refine wp_load_whole rfl 45 _ rfl (w.heap.size + 1 + 1 + 1 + 1) rfl R5.out.su Try.underlying45 rfl (info8 (bigL_length _)) ?_)
      refine (CX.out _).mono ?_
      rintro e w3 ⟨rfl, o3⟩
      have R6 := hide (R5.out.mono o3)
      clear R4 R5 o3 c6 f6
      have R7 := hide ((R6.out.set 2 (.int .u64 (Wd.hi s.natAbs : Nat))).set 3 (.int .u64 (Wd.lo s.natAbs : Nat)))
      have c2 := R6.out.out.cell (i := 2) rfl
      have c3 := R6.out.out.cell (i := 3) rfl
      have f2 := R6.out.out.free 2
      have f3 := R6.out.out.free 3
      go_wp2_with (first
        | refine wp_load_whole rfl 29 _ rfl (w.heap.size + 1 + 1 + 1) rfl R7.out.out Try.underlying29 rfl infoSt ?_
        | (refine wp_store_whole rfl 29 _ _ rfl (w.heap.size + 1) rfl [.slice (some ⟨w.heap.size + 1 + 1, 0, none⟩) (n + 1) (n + 1), .int .i64 (i : Int), .int .u64 (Wd.hi s.natAbs : Nat), .int .u64 (Wd.lo s.natAbs : Nat), .int .u64 (Wd.hi q : Nat), .int .u64 (Wd.lo q : Nat), .bool (decide (s < 0))] rfl R7.out.res infoSt rfl (by intro v hv; simp at hv; rcases hv with rfl | rfl | rfl | rfl | rfl | rfl | rfl <;> rfl) ?_; rintro w9 h9
           have E9 := R7.out.end_ _ h9
           clear h9))
      refine bodyPost_ret (results_whole rfl rfl E9.1 Try.underlying29 rfl infoSt) rfl ⟨w.heap.size + 1 + 1, by omega, ?_, E9.2.1, E9.2.2⟩
      rw [← HSQ.out.1, ← HSQ.out.2]
      rfl
end Go.Proofs.Ythaaajepolahfaa
