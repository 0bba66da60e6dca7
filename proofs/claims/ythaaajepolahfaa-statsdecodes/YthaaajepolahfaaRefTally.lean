/-
  The document's own Len and Encode of plans (offertoryref09): what they answer.
-/
import Derived.Test.YthaaajepolahfaaRefBin
import Derived.Test.YthaaajepolahfaaTallyN
import Derived.Test.YthaaajepolahfaaRefWideB
import Derived.Test.YthaaajepolahfaaRefWideE
import Derived.Test.YthaaajepolahfaaElem
namespace Go.Proofs.Ythaaajepolahfaa
open Go.RowKit Pn
set_option linter.unusedVariables false

set_option maxHeartbeats 1000000 in
theorem refLen12_any {lo hi mo : Int} {a : Option Addr} {n : Nat} {es : List Int} (cap : Nat) (w : World) (F : Fit w lo hi mo a n es) (hs : soundZ lo hi mo es = 0) :
    Calls Try.prog 14 #[pv lo hi mo a n cap] w fun e w' => e = .returned (.int .i64 ((lenN es (bitsN (hi - lo).toNat) : Nat) : Int)) ∧ Old w w' := by
  obtain ⟨h1, _, h3⟩ := sound_of hs
  unfold bad1 at h1
  have h4 := F.len
  have n64 : n ≤ 64 := by unfold bad3 at h3; omega
  have C := hide (fun wr : World => refBits10_any (lo := lo) (hi := hi) (mo := mo) (a := a) (n := n) cap wr (by omega) (by omega) (by omega) (by omega))
  have hb := bits_40 (d := (hi - lo).toNat) (by omega)
  have B := hide (Bx.start cap F)
  unfold lenN
  rw [h4]
  unfold pv at C ⊢
  clear h1 h3 h4 hs F
  revert C hb
  generalize bitsN (hi - lo).toNat = bb
  intro C hb
  have b1 : (0 : Int) ≤ bb := by omega
  have b2 : (bb : Int) ≤ 40 := by omega
  have b3 : (n : Int) ≤ 64 := by omega
  clear hb
  go_enter Try.func14, Try.ntmps14
  go_wp2_with fail
  revert B
  generalize w.alloc (.cells #[.int .i64 lo, .int .i64 hi, .int .i64 mo, .slice a n cap] 24) = wd
  intro B
  have ne : Nonempty (After wd) := ⟨⟨_, Old.refl _⟩⟩
  have a0 : ∀ y : After wd, y.to.cell? ⟨w.heap.size, 0, none⟩ = some (.int .i64 lo) := fun y => (B.out.mono y.old).c0
  have a1 : ∀ y : After wd, y.to.cell? ⟨w.heap.size, 1, none⟩ = some (.int .i64 hi) := fun y => (B.out.mono y.old).c1
  have a2 : ∀ y : After wd, y.to.cell? ⟨w.heap.size, 2, none⟩ = some (.int .i64 mo) := fun y => (B.out.mono y.old).c2
  have a3 : ∀ y : After wd, y.to.cell? ⟨w.heap.size, 3, none⟩ = some (.slice a n cap) := fun y => (B.out.mono y.old).c3
  have e1 : IntKind.i64.wrap ((n : Int) + 2) = ((n + 2 : Nat) : Int) := by rw [IntKind.wrap_i64]; omega
  have e2 : IntKind.i64.wrap (3 * (bb : Int)) = ((3 * bb : Nat) : Int) := by rw [IntKind.wrap_i64]; omega
  have e3 : IntKind.i64.wrap (((n + 2 : Nat) : Int) + ((3 * bb : Nat) : Int)) = ((n + 2 + 3 * bb : Nat) : Int) := by rw [IntKind.wrap_i64]; omega
  refine wp_region_calm (by kernel_rfl) (by kernel_rfl) ?_
  repeat (go_big_quiet_step (first | with_reducible exact calm_of (C.out _)))
  refine wpQuiet_nil ?_
  rintro _ ⟨⟨w3, o3⟩, rfl⟩
  go_wp2
  go_ret
  exact ⟨by simp, B.out.old.trans o3⟩

/-- What lies in the world while a vector is made: the plan, the samples, the vector in a block of the call's own. -/
structure En (w : World) (lo hi mo : Int) (a : Option Addr) (n cap : Nat) (es : List Int) (b : Option Addr) (k : Nat) (xs : List Int) (gv : Nat) (vs : List Nat) (wr : World) : Prop where
  bx : Bx w w.heap.size lo hi mo a n cap es wr
  sam : Sam wr b k xs
  row : Row wr gv 43 (nums .u32 vs)
  gl : w.heap.size < gv
  fa : ∀ x, 0 < (ints es).length → a = some x → x.block ≠ gv
  fb : ∀ x, 0 < (ints xs).length → b = some x → x.block ≠ gv
section
variable {w : World} {lo hi mo : Int} {a : Option Addr} {n cap : Nat} {es : List Int} {b : Option Addr} {k : Nat} {xs : List Int} {gv : Nat} {vs : List Nat} {wr w' : World}
theorem En.mono (h : En w lo hi mo a n cap es b k xs gv vs wr) (o : Old wr w') : En w lo hi mo a n cap es b k xs gv vs w' := ⟨h.bx.mono o, h.sam.mono o, h.row.mono o, h.gl, h.fa, h.fb⟩
theorem En.put (h : En w lo hi mo a n cap es b k xs gv vs wr) (p z : Nat) : En w lo hi mo a n cap es b k xs gv (vs.set p z) (wr.setCell ⟨gv, p, none⟩ (.int .u32 (z : Int))) := by
  have gr : wr.grownBy (wr.setCell ⟨gv, p, none⟩ (.int .u32 (z : Int))) (some gv) := grown_set _ _ _ _
  have gl := h.gl
  refine ⟨⟨h.bx.row.grown gr (by omega), ⟨h.bx.fit.lo, h.bx.fit.hi, h.bx.fit.mo, h.bx.fit.len, h.bx.fit.small, h.bx.fit.each, h.bx.fit.rd.grown gr h.fa⟩, h.bx.old.grown gr (by omega)⟩,
    ⟨h.sam.len, h.sam.small, h.sam.each, h.sam.rd.grown gr h.fb⟩, ?_, h.gl, h.fa, h.fb⟩
  rw [← nums_set]
  exact h.row.set p _
theorem En.at (h : En w lo hi mo a n cap es b k xs gv vs wr) {i z : Nat} (hz : vs[i]? = some z) : wr.cell? ⟨gv, i, none⟩ = some (.int .u32 (z : Int)) := h.row.cell (by simp [nums, hz])
end
theorem bit_sum (zc pp j : Nat) : ((zc : Int) + ((pp : Int) / 2 ^ j).tmod 2) % 4294967296 = (((zc + bit pp j) % 4294967296 : Nat) : Int) := by
  unfold bit
  rw [show (pp : Int) / 2 ^ j = ((pp / 2 ^ j : Nat) : Int) by simp]
  generalize pp / 2 ^ j = q
  rw [Int.tmod_eq_emod_of_nonneg (by omega)]
  omega
theorem make_u32 (n : Nat) (hn : n ≤ 1000000) (w : World) : (Instr.makeSlice 38 (.int .i64 (n : Int)) (.int .i64 (n : Int))).run Try.prog w = .ok (.slice (some ⟨w.heap.size, 0, none⟩) n n) (w.alloc (.cells (nums .u32 (List.replicate n 0)).toArray 43)) :=
  make_nums (P := Try.prog) (t := 38) (e := 43) (k := .u32) (B := 4) Try.underlying38 (by kernel_rfl) n (by omega) (by omega) w

/-- .. and a square in its box. -/
structure E2 (w : World) (lo hi mo : Int) (a : Option Addr) (n cap : Nat) (es : List Int) (b : Option Addr) (k : Nat) (xs : List Int) (gv gs m : Nat) (vs : List Nat) (wr : World) : Prop where
  en : En w lo hi mo a n cap es b k xs gv vs wr
  sq : Row wr gs 45 (nums .u32 (Wd.bigL m))
  ne : gs ≠ gv
section
variable {w : World} {lo hi mo : Int} {a : Option Addr} {n cap : Nat} {es : List Int} {b : Option Addr} {k : Nat} {xs : List Int} {gv gs m : Nat} {vs : List Nat} {wr w' : World}
theorem E2.mono (h : E2 w lo hi mo a n cap es b k xs gv gs m vs wr) (o : Old wr w') : E2 w lo hi mo a n cap es b k xs gv gs m vs w' := ⟨h.en.mono o, h.sq.mono o, h.ne⟩
theorem E2.put (h : E2 w lo hi mo a n cap es b k xs gv gs m vs wr) (p z : Nat) : E2 w lo hi mo a n cap es b k xs gv gs m (vs.set p z) (wr.setCell ⟨gv, p, none⟩ (.int .u32 (z : Int))) :=
  ⟨h.en.put p z, h.sq.grown (grown_set _ _ _ _) h.ne, h.ne⟩
end

set_option maxRecDepth 100000 in
set_option maxHeartbeats 8000000 in
theorem refEncode12_any {lo hi mo : Int} {a : Option Addr} {n : Nat} {es : List Int} (cap : Nat) (b : Option Addr) (k ck : Nat) (xs : List Int) (w : World) (F : Fit w lo hi mo a n es) (hs : soundZ lo hi mo es = 0) (S : Sam w b k xs) :
    Calls Try.prog 16 #[pv lo hi mo a n cap, .slice b k ck] w fun e w' => ∃ g, w.heap.size ≤ g ∧ e = .returned (.slice (some ⟨g, 0, none⟩) (lenN es (bitsN (hi - lo).toNat)) (lenN es (bitsN (hi - lo).toNat))) ∧ Row w' g 43 (nums .u32 (vecT lo hi es (bitsN (hi - lo).toNat) xs)) ∧ Old w w' := by
  obtain ⟨h1, _, h3⟩ := sound_of hs
  unfold bad1 at h1
  have h4 := F.len
  have n64 : n ≤ 64 := by unfold bad3 at h3; omega
  have C1 := hide (fun wr : World => refBits10_any (lo := lo) (hi := hi) (mo := mo) (a := a) (n := n) cap wr (by omega) (by omega) (by omega) (by omega))
  have C2 := hide (fun (wr : World) (h : Fit wr lo hi mo a n es) => refLen12_any cap wr h hs)
  have C3 := hide (fun (x : Int) (wr : World) (h : Fit wr lo hi mo a n es) => refBin11_any cap x wr h)
  have C4 := hide (fun (x : Int) (wr : World) => refClamp10_any (lo := lo) (hi := hi) (mo := mo) (a := a) (n := n) cap x wr)
  have hb := bits_40 (d := (hi - lo).toNat) (by omega)
  have HP : Hid (∀ x : Int, ((plN lo hi x : Nat) : Int) = clampZ lo hi x - lo ∧ plN lo hi x < 1099511627776 ∧ -1099511627776 ≤ clampZ lo hi x ∧ clampZ lo hi x ≤ 1099511627776 ∧ -1099511627776 ≤ lo ∧ lo ≤ 1099511627776) := fun x => by
    have := clampZ_in (lo := lo) (hi := hi) (x := x) (by omega)
    unfold plN
    omega
  have B := hide (Bx.start cap F)
  have HS := hide S
  have HE := hide h4
  have HK := hide (And.intro S.len S.small)
  unfold pv at C1 C2 C3 C4 ⊢
  clear h1 h3 h4 hs F S
  revert C1 C2 hb
  generalize bitsN (hi - lo).toNat = bb
  intro C1 C2 hb
  obtain ⟨L, hL⟩ : ∃ L : Nat, L = lenN es bb := ⟨_, rfl⟩
  have hLn : L = n + 2 + 3 * bb := by rw [hL]; unfold lenN; rw [HE.out]
  rw [← hL] at C2 ⊢
  have MK := make_u32 L (by omega)
  have HLL := hide (And.intro hL hLn)
  have b1 : (0 : Int) ≤ bb := by omega
  have b2 : (bb : Int) ≤ 40 := by omega
  have b3 : (n : Int) ≤ 64 := by omega
  have HBB := hide (And.intro hb (And.intro n64 hLn))
  clear hb n64 hL hLn
  go_enter Try.func16, Try.ntmps16
  go_wp2_with fail
  refine (C1.out _).mono ?_
  rintro e w1 ⟨rfl, o1⟩
  have B1 := hide (B.out.mono o1)
  have S1 := hide ((HS.out.mono (Old.of_alloc _ _)).mono o1)
  clear B HS o1 C1
  have a0 := B1.out.c0
  have a1 := B1.out.c1
  have a2 := B1.out.c2
  have a3 := B1.out.c3
  go_wp2_with fail
  refine (C2.out _ B1.out.fit).mono ?_
  rintro e w2 ⟨rfl, o2⟩
  have B2 := hide (B1.out.mono o2)
  have S2 := hide (S1.out.mono o2)
  clear B1 S1 o2 C2 a0 a1 a2 a3
  have EN0 : Hid (En w lo hi mo a n cap es b k xs w2.heap.size (vecT lo hi es bb (xs.take 0)) (w2.alloc (.cells (nums .u32 (List.replicate L 0)).toArray 43))) := by
    refine ⟨B2.out.mono (Old.of_alloc _ _), S2.out.mono (Old.of_alloc _ _), ?_, B2.out.row.lt, ?_, ?_⟩
    · rw [List.take_zero, vecT_nil, ← HLL.out.1]
      exact Row.new _ _ _
    · intro x hp hx
      have := B2.out.fit.rd.lt hx hp
      omega
    · intro x hp hx
      have := S2.out.rd.lt hx hp
      omega
  have HG := hide (show w.heap.size ≤ w2.heap.size from B2.out.old.size)
  have a3 := EN0.out.bx.c3
  go_wp2_with fail
  clear B2 S2 a3 MK
  revert EN0 HG
  generalize w2.heap.size = gv
  intro EN0 HG
  go_loopw [8, 9, 10] (fun vi _ _ wr => ∃ i : Nat, i ≤ k ∧ vi = .int .i64 (i : Int) ∧ Hid (En w lo hi mo a n cap es b k xs gv (vecT lo hi es bb (xs.take i)) wr)) (fun vi _ _ _ => k - (intOf vi).toNat)
  case atStart => exact ⟨0, Nat.zero_le _, rfl, EN0⟩
  case round =>
    clear EN0
    obtain ⟨i, hi', rfl, R⟩ := hrel
    by_cases hl : i < k
    · have t3 : decide (i < k) = true := by simpa using hl
      have t3' : decide ((i : Int) < (k : Int)) = true := by simp; omega
      obtain ⟨b', off, rfl, _⟩ := rd_int R.out.sam.rd (i := i) (by rw [HK.out.1]; exact hl)
      obtain ⟨x, hx⟩ : ∃ x, x = xs.getD i 0 := ⟨_, rfl⟩
      obtain ⟨p, hp⟩ : ∃ p, p = binX lo hi es x := ⟨_, rfl⟩
      have pl : p ≤ n := by rw [hp, ← HE.out]; exact binX_le _ _ _ _
      have lL : n + 1 < L := by have := HBB.out; omega
      obtain ⟨z, hz⟩ : ∃ z, (stL lo hi es bb (xs.take i) x 0)[p]? = some z := ⟨_, stL_get lo hi es bb (xs.take i) x 0 (j := p) (by rw [← HLL.out.1]; omega)⟩
      have NB := hide (stL_bin lo hi es bb (xs.take i) x (z := z) (by rw [← hp]; exact hz))
      rw [← hp, HE.out] at NB
      have NT : Hid (xs.take (i + 1) = xs.take i ++ [x]) := by
        have hil : i < xs.length := by rw [HK.out.1]; exact hl
        show xs.take (i + 1) = _
        rw [List.take_add_one, List.getElem?_eq_getElem hil, Option.toList_some, hx]
        simp [List.getD, hil]
      have C5 := hide (C3.out x)
      rw [← hp] at C5
      have HX := hide hx
      have HZ := hide hz
      rw [← stL_zero lo hi es bb (xs.take i) x] at R
      clear hx hp hz
      go_wp2_with fail
      have S1 : En w lo hi mo a n cap es (some ⟨b', off, none⟩) k xs gv (stL lo hi es bb (xs.take i) x 0) (wr.drewN 1) := R.out.mono (Old.of_drewN _ _)
      refine Ssz.region (Ext := Old) 11 (fun w' => En w lo hi mo a n cap es (some ⟨b', off, none⟩) k xs gv (stL lo hi es bb (xs.take i) x 0) w') (Ssz.Apart []) [28, 29, 30, 31, 32, 33, 34, 35, 36, 37, 38]
        [(28, Ssx.cst (.slice (some ⟨gv, 0, none⟩) L L)), (29, Ssx.cst (.agg #[.int .i64 lo, .int .i64 hi, .int .i64 mo, .slice a n cap])), (30, Ssx.cst (.slice (some ⟨b', off, none⟩) k ck)), (31, Ssx.cst (.int .i64 (i : Int))), (32, Ssx.cst (.pointer (some ⟨b', off + i, none⟩))),
         (33, Ssx.cst (.int .i64 x)), (34, Ssx.cst (.int .i64 (p : Int))), (35, Ssx.cst (.pointer (some ⟨gv, 0 + p, none⟩))), (36, Ssx.cst (.int .u32 (z : Int))), (37, Ssx.cst (.int .u32 (((z + 1) % 4294967296 : Nat) : Int))), (38, Ssx.cst (.pointer (some ⟨gv, 0 + p, none⟩)))]
        [] (by kernel_rfl) (by kernel_rfl) (by kernel_rfl) (by simp) (by kernel_rfl) (by intro p hp; cases hp) (by kernel_rfl) (by kernel_rfl) Old.refl S1 ?apart ?good ?behind
      case apart => exact ⟨fun s hs => by simp at hs, fun s hs => by simp at hs⟩
      case good =>
        have hE : ∀ w w' : World, Old w w' → w.heap.size ≤ w'.heap.size := fun _ _ h => h.size
        refine And.intro (.inr ⟨by kernel_rfl, Ssz.keep (Ssx.mv Old.refl rfl rfl (fun _ _ h => h)) hE (by kernel_rfl)⟩) ?_
        refine And.intro (.inr ⟨by kernel_rfl, Ssz.keep (Ssx.whole Old.refl rfl rfl w.heap.size [.int .i64 lo, .int .i64 hi, .int .i64 mo, .slice a n cap] (fun _ _ h => h) (fun _ h => h.bx.row.rngX) Try.underlying24 rfl infoPl (fun _ => rfl)) hE (by kernel_rfl)⟩) ?_
        refine And.intro (.inr ⟨by kernel_rfl, Ssz.keep (Ssx.mv Old.refl rfl rfl (fun _ _ h => h)) hE (by kernel_rfl)⟩) ?_
        refine And.intro (.inr ⟨by kernel_rfl, Ssz.keep (Ssx.mv Old.refl rfl rfl (fun _ _ h => h)) hE (by kernel_rfl)⟩) ?_
        refine And.intro (.inr ⟨by kernel_rfl, Ssz.keep (el Old.refl rfl rfl b' off i (n := k) (cap := ck) (fun _ _ h => h) (fun _ _ h => h) hl Try.underlying22 (by kernel_rfl) (fun _ => rfl)) hE (by kernel_rfl)⟩) ?_
        refine And.intro (.inr ⟨by kernel_rfl, Ssz.keep (Ssy.cell Old.refl rfl rfl ⟨b', off + i, none⟩ (.int .i64 x) (fun _ _ h => h) (fun _ h => by rw [HX.out]; exact rd_at h.sam.rd (by rw [HK.out.1]; exact hl)) Try.underlying3 rfl (fun _ => rfl)) hE (by kernel_rfl)⟩) ?_
        refine And.intro (.inr ⟨by kernel_rfl, Ssz.keep (Ssx.call rfl fun a' w' hC hop => ⟨28, #[.agg #[.int .i64 lo, .int .i64 hi, .int .i64 mo, .slice a n cap], .int .i64 x], ?_, (C5.out w' hC.bx.fit).mono fun _ _ ⟨h1, h2⟩ => ⟨_, h1, hC.mono h2, h2, rfl⟩⟩) hE (by kernel_rfl)⟩) ?_
        · have h0 : a'.eval (.tmp 29) = .agg #[.int .i64 lo, .int .i64 hi, .int .i64 mo, .slice a n cap] := hop 29 (by simp [Op.operands, Call.operands])
          have h1 : a'.eval (.tmp 33) = .int .i64 x := hop 33 (by simp [Op.operands, Call.operands])
          simp [Act.eval] at h0 h1
          simp [h0, h1, go_sem]
        refine And.intro (.inr ⟨by kernel_rfl, Ssz.keep (el Old.refl rfl rfl gv 0 p (n := L) (cap := L) (fun _ _ h => h) (fun _ _ h => h) (by omega) Try.underlying38 (by kernel_rfl) (fun _ => rfl)) hE (by kernel_rfl)⟩) ?_
        refine And.intro (.inr ⟨by kernel_rfl, Ssz.keep (Ssy.cell Old.refl rfl rfl ⟨gv, 0 + p, none⟩ (.int .u32 (z : Int)) (fun _ _ h => h) (fun _ h => by rw [Nat.zero_add]; exact h.at HZ.out) Try.underlying43 rfl (fun _ => rfl)) hE (by kernel_rfl)⟩) ?_
        refine And.intro (.inr ⟨by kernel_rfl, Ssz.keep (addc32 Old.refl rfl rfl Try.underlying43 z (fun _ _ h => h) (fun _ => rfl)) hE (by kernel_rfl)⟩) ?_
        refine And.intro (.inr ⟨by kernel_rfl, Ssz.keep (el Old.refl rfl rfl gv 0 p (n := L) (cap := L) (fun _ _ h => h) (fun _ _ h => h) (by omega) Try.underlying38 (by kernel_rfl) (fun _ => rfl)) hE (by kernel_rfl)⟩) ?_
        exact trivial
      case behind =>
        intro vals wb hC hD hv
        have v0 : vals 28 = _ := hv _ (.head _)
        have v1 : vals 29 = _ := hv _ (.tail _ (.head _))
        have v2 : vals 30 = _ := hv _ (.tail _ (.tail _ (.head _)))
        have v3 : vals 31 = _ := hv _ (.tail _ (.tail _ (.tail _ (.head _))))
        have v4 : vals 32 = _ := hv _ (.tail _ (.tail _ (.tail _ (.tail _ (.head _)))))
        have v5 : vals 33 = _ := hv _ (.tail _ (.tail _ (.tail _ (.tail _ (.tail _ (.head _))))))
        have v6 : vals 34 = _ := hv _ (.tail _ (.tail _ (.tail _ (.tail _ (.tail _ (.tail _ (.head _)))))))
        have v7 : vals 35 = _ := hv _ (.tail _ (.tail _ (.tail _ (.tail _ (.tail _ (.tail _ (.tail _ (.head _))))))))
        have v8 : vals 36 = _ := hv _ (.tail _ (.tail _ (.tail _ (.tail _ (.tail _ (.tail _ (.tail _ (.tail _ (.head _)))))))))
        have v9 : vals 37 = _ := hv _ (.tail _ (.tail _ (.tail _ (.tail _ (.tail _ (.tail _ (.tail _ (.tail _ (.tail _ (.head _))))))))))
        have vA : vals 38 = _ := hv _ (.tail _ (.tail _ (.tail _ (.tail _ (.tail _ (.tail _ (.tail _ (.tail _ (.tail _ (.tail _ (.head _)))))))))))
        simp only [Ssa.putAll, List.map_cons, List.map_nil, List.foldl_cons, List.foldl_nil, List.setIfInBounds_toArray, List.set_cons_succ, List.set_cons_zero, v0, v1, v2, v3, v4, v5, v6, v7, v8, v9, vA, List.drop_succ_cons, List.drop_zero, Nat.zero_add]
        have cz := hC.at HZ.out
        have fz := hC.row.free p
        have R1 := hide (hC.put p ((z + 1) % 4294967296))
        rw [← NB.out] at R1
        clear hC hD hv v0 v1 v2 v3 v4 v5 v6 v7 v8 v9 vA S1 R C5 HZ NB
        revert R1 cz fz
        generalize (z + 1) % 4294967296 = z1
        intro cz fz R1
        obtain ⟨zc, hzc⟩ : ∃ zc, (stL lo hi es bb (xs.take i) x (n + 1))[n + 1]? = some zc := ⟨_, stL_get lo hi es bb (xs.take i) x (n + 1) (j := n + 1) (by rw [← HLL.out.1]; omega)⟩
        have NC := hide (stL_next lo hi es bb (xs.take i) x (c := n + 1) (z := zc) (by rw [← HLL.out.1]; omega) hzc)
        rw [show inc lo hi es bb (n + 1) x = 1 by rw [← HE.out]; exact inc_count lo hi es bb x] at NC
        have R2 := hide (R1.out.put (n + 1) ((zc + 1) % 4294967296))
        rw [← NC.out] at R2
        have cc := R1.out.at hzc
        have fc := R1.out.row.free (n + 1)
        have q0 : (0 : Int) ≤ (n : Int) + 2 - 1 := by omega
        have q1 : (n : Int) + 2 - 1 < L := by omega
        have ei : (n : Int) + 2 - 1 = ((n + 1 : Nat) : Int) := by omega
        have ez : IntKind.u32.wrap ((zc : Int) + 1) = (((zc + 1) % 4294967296 : Nat) : Int) := by show ((zc : Int) + 1) % 4294967296 = _; omega
        revert R2 ez
        generalize (zc + 1) % 4294967296 = z2
        intro R2 ez
        clear NC
        go_wp2_with fail
        clear cz fz cc fc q0 q1 ei ez R1
        revert R2
        generalize (World.setCell (World.setCell wb ⟨gv, p, none⟩ (.int .u32 (z1 : Int))) ⟨gv, n + 1, none⟩ (.int .u32 (z2 : Int))) = wc
        intro R2
        obtain ⟨pp, hpp⟩ : ∃ pp, pp = plN lo hi x := ⟨_, rfl⟩
        obtain ⟨p1, p2, p3, p4, p5, p6⟩ := HP.out x
        rw [← hpp] at p1 p2
        have ne : Nonempty (After wc) := ⟨⟨_, Old.refl _⟩⟩
        have a0 : ∀ y : After wc, y.to.cell? ⟨w.heap.size, 0, none⟩ = some (.int .i64 lo) := fun y => (R2.out.mono y.old).bx.c0
        have a1 : ∀ y : After wc, y.to.cell? ⟨w.heap.size, 1, none⟩ = some (.int .i64 hi) := fun y => (R2.out.mono y.old).bx.c1
        have a2 : ∀ y : After wc, y.to.cell? ⟨w.heap.size, 2, none⟩ = some (.int .i64 mo) := fun y => (R2.out.mono y.old).bx.c2
        have a3 : ∀ y : After wc, y.to.cell? ⟨w.heap.size, 3, none⟩ = some (.slice a n cap) := fun y => (R2.out.mono y.old).bx.c3
        have sx : ∀ y : After wc, y.to.cell? ⟨b', off + i, none⟩ = some (.int .i64 x) := fun y => by rw [HX.out]; exact rd_at (R2.out.mono y.old).sam.rd (by rw [HK.out.1]; exact hl)
        have C6 := hide (C4.out x)
        have HQ := hide (And.intro hpp p2)
        have e1 : IntKind.i64.wrap (clampZ lo hi x - lo) = (pp : Int) := by rw [IntKind.wrap_i64, ← p1]; omega
        have e2 : IntKind.u64.wrap (pp : Int) = (pp : Int) := by show (pp : Int) % 18446744073709551616 = pp; omega
        have i0 : (0 : Int) ≤ i := by omega
        have i1 : (i : Int) < k := by omega
        clear p1 p2 p3 p4 p5 p6 hpp
        revert C6 e1
        generalize clampZ lo hi x = cx
        intro C6 e1
        refine wp_region_calm (by kernel_rfl) (by kernel_rfl) ?_
        repeat (go_big_quiet_step (first | with_reducible exact calm_of (C6.out _)))
        refine wpQuiet_nil ?_
        rintro _ ⟨⟨w3, o3⟩, rfl⟩
        have R3 := hide (R2.out.mono o3)
        clear R2 o3 a0 a1 a2 a3 sx ne C6 e1
        have CO : Hid (∀ wr : World, Calls Try.prog 18 #[.agg #[.int .u64 0, .int .u64 (pp : Nat)]] wr fun e w' => e = .returned (bv pp) ∧ Old wr w') := fun wr => by
          have := refOf9_any pp wr
          rw [show wv pp = .agg #[.int .u64 0, .int .u64 (pp : Nat)] by
            unfold wv
            rw [show Wd.hi pp = 0 by have := HQ.out.2; unfold Wd.hi; omega, show Wd.lo pp = pp by have := HQ.out.2; unfold Wd.lo; omega]
            rfl] at this
          exact this
        have CM := hide (fun wr : World => refMul9_any pp pp wr)
        go_wp2_with fail
        refine (CO.out _).mono ?_
        rintro e w4 ⟨rfl, o4⟩
        have R4 := hide (R3.out.mono o4)
        clear R3 o4
        go_wp2_with fail
        refine (CO.out _).mono ?_
        rintro e w5 ⟨rfl, o5⟩
        have R5 := hide (R4.out.mono o5)
        clear R4 o5
        go_wp2_with fail
        refine (CM.out _).mono ?_
        rintro e w6 ⟨rfl, o6⟩
        have R6 := hide (R5.out.mono o6)
        clear R5 o6 CO CM
        have Z6 := hide (Row.new w6 45 (nums .u32 z8))
        unfold bv
        go_wp2_with (refine wp_store_whole rfl 45 _ _ rfl w6.heap.size rfl (nums .u32 (Wd.bigL (pp * pp))) rfl Z6.out (info8 (Wd.bigL_length _)) (by rw [nums_length, nums_length, Wd.bigL_length]; rfl) (nums_oneCell _ _) ?_; rintro w7 h7
                     have Q7 : Hid (E2 w lo hi mo a n cap es (some ⟨b', off, none⟩) k xs gv w6.heap.size (pp * pp) (stL lo hi es bb (xs.take i) x (n + 1 + 1)) w7) := by
                       subst h7
                       have o7 : Old w6 ((w6.alloc (.cells (nums .u32 z8).toArray 45)).setRow w6.heap.size (nums .u32 (Wd.bigL (pp * pp))).toArray) := (Old.of_alloc w6 _).grown (grown_setRow _ _ _) (Nat.le_refl _)
                       exact ⟨R6.out.mono o7, Z6.out.whole _, by have := R6.out.row.lt; omega⟩
                     clear h7)
        clear Z6 R6
        revert Q7
        generalize w6.heap.size = gs
        intro Q7
        go_loopw [11] (fun vj wr => ∃ j : Nat, j ≤ bb ∧ vj = .int .i64 (j : Int) ∧ Hid (E2 w lo hi mo a n cap es (some ⟨b', off, none⟩) k xs gv gs (pp * pp) (stL lo hi es bb (xs.take i) x (n + 2 + j)) wr)) (fun vj _ => bb - (intOf vj).toNat)
        case atStart => exact ⟨0, Nat.zero_le _, rfl, Q7⟩
        case round =>
          clear Q7
          obtain ⟨j, hj, rfl, T⟩ := hrel
          by_cases hjl : j < bb
          · have t4 : decide (j < bb) = true := by simpa using hjl
            have t4' : decide ((j : Int) < (bb : Int)) = true := by simp; omega
            obtain ⟨zc, hzc⟩ : ∃ zc, (stL lo hi es bb (xs.take i) x (n + 2 + j))[n + 2 + j]? = some zc := ⟨_, stL_get lo hi es bb (xs.take i) x _ (j := n + 2 + j) (by rw [← HLL.out.1]; have := HBB.out; omega)⟩
            have NC := hide (stL_next lo hi es bb (xs.take i) x (c := n + 2 + j) (z := zc) (by rw [← HLL.out.1]; have := HBB.out; omega) hzc)
            rw [show inc lo hi es bb (n + 2 + j) x = bit pp j by rw [← HE.out, HQ.out.1]; exact inc_bit lo hi es x hjl] at NC
            have T2 := hide (T.out.put (n + 2 + j) ((zc + bit pp j) % 4294967296))
            rw [← NC.out] at T2
            have cc := T.out.en.at hzc
            have fc := T.out.en.row.free (n + 2 + j)
            have q0 : (0 : Int) ≤ (n : Int) + 2 + j := by omega
            have q1 : (n : Int) + 2 + j < L := by have := HBB.out; omega
            have q2 : (0 : Int) ≤ j := by omega
            have q3 : (j : Int) ≤ 40 := by have := HBB.out; omega
            have e3 : IntKind.u64.wrap (j : Int) = (j : Int) := by show (j : Int) % 18446744073709551616 = j; have := HBB.out; omega
            go_wp2_with fail
            refine ⟨⟨j + 1, by omega, by simp, ?_⟩, by simp [intOf]; omega⟩
            rw [bit_sum]
            exact T2
          · obtain rfl : j = bb := by omega
            have t4 : decide (j < j) = false := by simp
            have t4' : decide ((j : Int) < (j : Int)) = false := by simp
            go_wp2_with fail
            go_loopw [12] (fun vj wr => ∃ l : Nat, l ≤ 2 * j ∧ vj = .int .i64 (l : Int) ∧ Hid (E2 w lo hi mo a n cap es (some ⟨b', off, none⟩) k xs gv gs (pp * pp) (stL lo hi es j (xs.take i) x (n + 2 + j + l)) wr)) (fun vj _ => 2 * j - (intOf vj).toNat)
            case atStart => exact ⟨0, Nat.zero_le _, rfl, T⟩
            case round =>
              clear T
              obtain ⟨l, hll, rfl, T⟩ := hrel
              by_cases hl2 : l < 2 * j
              · have t5 : decide (l < 2 * j) = true := by simpa using hl2
                have t5' : decide ((l : Int) < 2 * (j : Int)) = true := by simp; omega
                obtain ⟨zc, hzc⟩ : ∃ zc, (stL lo hi es j (xs.take i) x (n + 2 + j + l))[n + 2 + j + l]? = some zc := ⟨_, stL_get lo hi es j (xs.take i) x _ (j := n + 2 + j + l) (by rw [← HLL.out.1]; have := HBB.out; omega)⟩
                have NC := hide (stL_next lo hi es j (xs.take i) x (c := n + 2 + j + l) (z := zc) (by rw [← HLL.out.1]; have := HBB.out; omega) hzc)
                rw [show inc lo hi es j (n + 2 + j + l) x = bit (pp * pp) l by rw [← HE.out, HQ.out.1]; exact inc_square lo hi es x] at NC
                have T2 := hide (T.out.put (n + 2 + j + l) ((zc + bit (pp * pp) l) % 4294967296))
                rw [← NC.out] at T2
                obtain ⟨e, he⟩ : ∃ e, e = l / 16 := ⟨_, rfl⟩
                obtain ⟨r, hr⟩ : ∃ r, r = l % 16 := ⟨_, rfl⟩
                have l80 : l < 80 := by have := HBB.out; omega
                have e8 : e < 8 := by omega
                have cs : wr.cell? ⟨gs, e, none⟩ = some (.int .u32 ((Wd.digit (pp * pp) e : Nat) : Int)) := T.out.sq.cell (by unfold nums; rw [List.getElem?_map, Wd.bigL_get _ e8]; rfl)
                have BD := hide (bit_digit (pp * pp) l)
                rw [← he, ← hr] at BD
                have dgl := Wd.digit_lt (pp * pp) e
                have BD2 : Hid (Wd.digit (pp * pp) e / 2 ^ r % 2 = bit (pp * pp) l) := BD.out
                have td : Int.tdiv (l : Int) 16 = (e : Int) := by rw [Int.tdiv_eq_ediv_of_nonneg (by omega)]; omega
                have tm : Int.tmod (l : Int) 16 = (r : Int) := by rw [Int.tmod_eq_emod_of_nonneg (by omega)]; omega
                have cc := T.out.en.at hzc
                have fc := T.out.en.row.free (n + 2 + j + l)
                have q0 : (0 : Int) ≤ (n : Int) + 2 + j + l := by omega
                have q1 : (n : Int) + 2 + j + l < L := by have := HBB.out; omega
                have q2 : (0 : Int) ≤ e := by omega
                have q3 : (e : Int) < 8 := by omega
                have q4 : (0 : Int) ≤ r := by omega
                have q5 : (r : Int) ≤ 64 := by omega
                have r16 := hide (show r ≤ 32 by omega)
                have q6 : (l : Int) ≤ 80 := by omega
                have q7 : (0 : Int) ≤ l := by omega
                have ew : IntKind.u64.wrap (r : Int) = (r : Int) := by show (r : Int) % 18446744073709551616 = r; omega
                clear NC BD he hr hzc
                revert cs BD2 dgl T2
                generalize Wd.digit (pp * pp) e = dg
                generalize bit (pp * pp) l = bt
                intro T2 cs dgl BD2
                go_wp2_with fail
                go_region
                go_wp2
                refine ⟨⟨l + 1, by omega, by simp, ?_⟩, by simp [intOf]; omega⟩
                have eb : bit dg r = bt := BD2.out
                rw [Nat.min_eq_left r16.out, bit_sum, eb]
                exact T2.out.mono (Old.of_drewN _ 1)
              · obtain rfl : l = 2 * j := by omega
                have t5 : decide (2 * j < 2 * j) = false := by simp
                have t5' : decide (2 * (j : Int) < 2 * (j : Int)) = false := by simp
                have FN := hide T.out.en
                rw [show n + 2 + j + 2 * j = lenN es j by rw [← HLL.out.1]; have := HBB.out; omega, stL_all, ← NT.out] at FN
                clear T
                go_wp2
                have iw : wrap64 ((i : Int) + 1) = ((i + 1 : Nat) : Int) := by have := HK.out.2; unfold wrap64; omega
                rw [iw]
                exact ⟨⟨i + 1, by omega, rfl, FN⟩, by simp [intOf]; omega⟩
    · obtain rfl : i = k := by omega
      have t3 : decide (i < i) = false := by simp
      have t3' : decide ((i : Int) < (i : Int)) = false := by simp
      have e1 : xs.take i = xs := List.take_of_length_le (by rw [HK.out.1]; exact Nat.le_refl _)
      go_wp2
      go_ret
      refine ⟨gv, HG.out, rfl, ?_, R.out.bx.old⟩
      have := R.out.row
      rw [e1] at this
      exact this
end Go.Proofs.Ythaaajepolahfaa
