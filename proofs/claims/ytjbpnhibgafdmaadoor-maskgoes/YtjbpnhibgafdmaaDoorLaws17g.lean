/-
  Layer 17's statement MaskGoes, if the layer's calls are what they owe.
-/
import Derived.Test.YtjbpnhibgafdmaaDoorLaws17c
import Derived.Test.YtjbpnhibgafdmaaDoorMgZ
import Derived.Test.YtjbpnhibgafdmaaDoorMgSs
import Derived.Test.YtjbpnhibgafdmaaDoorCrdCut
import Derived.Deep.DeepCutAuto
namespace Go.Proofs.YtjbpnhibgafdmaaDoor
open Go.RowKit Cha M Vec Sl Mk Mz
set_option linter.unusedVariables false

theorem grownC {a b c : World} {r : Option Nat} (h : Old a b) (hg : b.grownBy c r) (hb : ∀ g, r = some g → a.heap.size ≤ g) : Old a c := Below.grown h hg h.size hb
/-- Two rows of the call's own. -/
structure P2 (wR : World) (gs gw : Nat) (xs ys : List Nat) (wr : World) : Prop where
  s : Row wr gs 41 (nums .u32 xs)
  t : Row wr gw 41 (nums .u32 ys)
  ne : gs ≠ gw
  ls : wR.heap.size ≤ gs
  lt : wR.heap.size ≤ gw
  old : Old wR wr
theorem P2.mono {wR wr w' : World} {gs gw : Nat} {xs ys : List Nat} (h : P2 wR gs gw xs ys wr) (o : Old wr w') : P2 wR gs gw xs ys w' := ⟨h.s.mono o, h.t.mono o, h.ne, h.ls, h.lt, h.old.trans o⟩
theorem P2.setS {wR wr : World} {gs gw : Nat} {xs ys : List Nat} (h : P2 wR gs gw xs ys wr) (i z : Nat) : P2 wR gs gw (xs.set i z) ys (wr.setCell ⟨gs, i, none⟩ (.int .u32 (z : Int))) :=
  ⟨by rw [← nums_set]; exact h.s.set _ _, h.t.grown (grown_set _ _ _ _) h.ne.symm, h.ne, h.ls, h.lt, h.old.grown (grown_set _ _ _ _) h.ls⟩
theorem P2.setT {wR wr : World} {gs gw : Nat} {xs ys : List Nat} (h : P2 wR gs gw xs ys wr) (i z : Nat) : P2 wR gs gw xs (ys.set i z) (wr.setCell ⟨gw, i, none⟩ (.int .u32 (z : Int))) :=
  ⟨h.s.grown (grown_set _ _ _ _) h.ne, by rw [← nums_set]; exact h.t.set _ _, h.ne, h.ls, h.lt, h.old.grown (grown_set _ _ _ _) h.lt⟩
theorem two_rows (w : World) (n : Nat) : P2 w w.heap.size (w.heap.size + 1) (List.replicate n 0) (List.replicate n 0) ((w.alloc (.cells (nums .u32 (List.replicate n 0)).toArray 41)).alloc (.cells (nums .u32 (List.replicate n 0)).toArray 41)) := by
  have K2 := Row.new (w.alloc (.cells (nums .u32 (List.replicate n 0)).toArray 41)) 41 (nums .u32 (List.replicate n 0))
  rw [size_alloc] at K2
  exact ⟨(Row.new w _ _).mono (Old.of_alloc _ _), K2, by omega, Nat.le_refl _, by omega, (Old.of_alloc _ _).alloc _⟩
theorem P2.swap {wR wr : World} {gs gw : Nat} {xs ys : List Nat} (h : P2 wR gs gw xs ys wr) : P2 wR gw gs ys xs wr := ⟨h.t, h.s, h.ne.symm, h.lt, h.ls, h.old⟩

/-- Those two rows, and two beside them. -/
structure P4 (wR : World) (gs gw gv go : Nat) (xs ys vs os : List Nat) (wr : World) : Prop where
  p : P2 wR gs gw xs ys wr
  v : Row wr gv 41 (nums .u32 vs)
  o : Row wr go 41 (nums .u32 os)
  vs_ : gv ≠ gs
  vw_ : gv ≠ gw
  os_ : go ≠ gs
  ow_ : go ≠ gw
theorem P4.mono {wR wr w' : World} {gs gw gv go : Nat} {xs ys vs os : List Nat} (h : P4 wR gs gw gv go xs ys vs os wr) (o : Old wr w') : P4 wR gs gw gv go xs ys vs os w' := ⟨h.p.mono o, h.v.mono o, h.o.mono o, h.vs_, h.vw_, h.os_, h.ow_⟩
theorem P4.setS {wR wr : World} {gs gw gv go : Nat} {xs ys vs os : List Nat} (h : P4 wR gs gw gv go xs ys vs os wr) (i z : Nat) : P4 wR gs gw gv go (xs.set i z) ys vs os (wr.setCell ⟨gs, i, none⟩ (.int .u32 (z : Int))) :=
  ⟨h.p.setS i z, h.v.grown (grown_set _ _ _ _) h.vs_, h.o.grown (grown_set _ _ _ _) h.os_, h.vs_, h.vw_, h.os_, h.ow_⟩
theorem P4.setT {wR wr : World} {gs gw gv go : Nat} {xs ys vs os : List Nat} (h : P4 wR gs gw gv go xs ys vs os wr) (i z : Nat) : P4 wR gs gw gv go xs (ys.set i z) vs os (wr.setCell ⟨gw, i, none⟩ (.int .u32 (z : Int))) :=
  ⟨h.p.setT i z, h.v.grown (grown_set _ _ _ _) h.vw_, h.o.grown (grown_set _ _ _ _) h.ow_, h.vs_, h.vw_, h.os_, h.ow_⟩
theorem add_sub_int (x y z : Nat) (h : z < 4294967296) : ((x : Int) + ((y : Int) - (z : Int))) % 4294967296 = ((add32 x (sub32 y z) : Nat) : Int) := by
  rw [← add32_int, ← sub32_int _ _ h, Int.add_emod_emod]
theorem vecZ_lt (n : Nat) (z : Nat → Int) : ∀ y ∈ vecZ n z, y < 4294967296 := by
  intro y hy
  unfold vecZ at hy
  obtain ⟨k, _, rfl⟩ := List.mem_map.1 hy
  omega
theorem zw_get {f : Nat → Nat → Nat} {xs ys : List Nat} {k x y : Nat} (hx : xs[k]? = some x) (hy : ys[k]? = some y) : (List.zipWith f xs ys)[k]? = some (f x y) := by simp [List.getElem?_zipWith, hx, hy]
/-- A seed of one byte. -/
def sd1 (i : Nat) : List Nat := i :: List.replicate 31 0
theorem sd1_length (i : Nat) : (sd1 i).length = 32 := by simp [sd1]
theorem sd1_lt {i : Nat} (h : i < 256) : ∀ x ∈ sd1 i, x < 256 := by
  intro x hx
  rcases List.mem_cons.1 hx with rfl | hx
  · exact h
  · have := List.eq_of_mem_replicate hx
    omega
/-- A new slice over a block that is known whole, in a pair with no error. -/
def freshM (g0 : Nat) (k : IntKind) (t : TypeId) (n : Nat) (xs : List Nat) : Ssx.XP Old :=
  ⟨fun v w => ∃ u, v = .tuple #[u, .int .i64 0] ∧ (fresh g0 k t n xs).p u w, fun _ _ _ ⟨u, h1, h2⟩ o => ⟨u, h1, (fresh g0 k t n xs).st _ _ _ h2 o⟩⟩
theorem mk_ext {P : Program} {C : World → Prop} {Ext : World → World → Prop} {Ok : Tmp → Value → World → Prop} {o : Oper} {d : Tmp} (hr : ∀ w, Ext w w) {x : Tmp} (i : Nat) (ho : o.op = .extract (.tmp x) i) (hd : o.dst = some d)
    (hX : ∀ v w, Ok x v w → ∃ vs u, v = .tuple vs ∧ vs[i]? = some u ∧ Ok d u w) : Ssb.Good P C Ext Ok o :=
  Ssx.val hr hd fun a w hC hop => by
    obtain ⟨vs, u, h1, h2, h3⟩ := hX _ _ (hop x (by rw [ho]; simp [Op.operands]))
    exact ⟨u, Ssa.run_ext i ho h1 h2 w, h3⟩

set_option maxRecDepth 100000 in
set_option maxHeartbeats 16000000 in
theorem walkK_MaskGoes (K : MaskK) (v0 v1 v2 : Value) (w : World) (w0 : IsNums .u64 18446744073709551616 17592186043904 w v0) (w1 : IsNums .u32 4294967296 35184372088832 w v1) (w2 : IsInt .u8 v2) (qt : QTab w) :
    Calls Tryd.prog 6 #[v0, v1, v2] w fun e w' => e = .returned (.bool true) ∧ Old w w' := by
  obtain ⟨a0, N0, cap0, ss0, rfl, hl0, hb0, rd0, hM0, hc0⟩ := w0
  obtain ⟨ax, n, cx, xs, rfl, hxl, hxb, rx, hnM, hcx⟩ := w1
  obtain ⟨gone, hgo, rfl⟩ := mk8 w2
  have HQ := hide qt
  have KK := hide K
  have HX := hide rx
  have XL := hide hxl
  have XB := hide hxb
  have H0 : Hid (ss0.length = N0 ∧ (∀ x ∈ ss0, x < 18446744073709551616) ∧ Rd w a0 (nums .u64 ss0)) := ⟨hl0, hb0, rd0⟩
  clear w2 K qt rx hxl hxb hl0 hb0 rd0
  go_enter Tryd.func6, Tryd.ntmps6
  go_upto_if 25 with fail
  go_cut [0] (fun v wc => wc = w ∧ ∃ (N : Nat) (ss : List Nat), v = .slice a0 N cap0 ∧ Hid (ss.length = N ∧ (∀ x ∈ ss, x < 18446744073709551616) ∧ Rd w a0 (nums .u64 ss)) ∧ N ≤ 6)
  case first =>
    by_cases h : 6 < N0
    · have d : decide ((6 : Int) < N0) = true := decide_eq_true (by omega)
      obtain ⟨b, off, z, rfl, _, _⟩ := H0.out.2.2.num (i := 0) (by rw [H0.out.1]; omega)
      have c6 : (6 : Int) ≤ cap0 := by omega
      go_wp2_with fail
      go_meet
      exact ⟨rfl, 6, ss0.take 6, rfl, ⟨by rw [List.length_take, H0.out.1]; omega, fun x hx => H0.out.2.1 x (List.mem_of_mem_take hx), by rw [← take_nums]; exact H0.out.2.2.take 6⟩, Nat.le_refl _⟩
    · have d : decide ((6 : Int) < N0) = false := decide_eq_false (by omega)
      go_wp2_with fail
      go_meet
      exact ⟨rfl, N0, ss0, rfl, H0.out, by omega⟩
  case rest =>
    obtain ⟨hwc, N, ss, rfl, HS, hN⟩ := hcut
    have hwc' := hwc.symm
    subst hwc'
    clear H0 hM0 hc0
    by_cases hn : 256 < n
    · have d : decide ((256 : Int) < n) = true := decide_eq_true (by omega)
      go_wp2_with fail
      refine (awake17 KK.out _ HQ.out).mono ?_
      rintro e w4 ⟨rfl, o4⟩
      go_wp2
      go_ret
      exact ⟨rfl, o4⟩
    · have d : decide ((256 : Int) < n) = false := decide_eq_false (by omega)
      by_cases hN0 : N = 0
      · have d2 : ((N : Int) == 0) = true := by rw [beq_iff_eq]; omega
        go_wp2_with fail
        refine (awake17 KK.out _ HQ.out).mono ?_
        rintro e w4 ⟨rfl, o4⟩
        go_wp2
        go_ret
        exact ⟨rfl, o4⟩
      · have d2 : ((N : Int) == 0) = false := by rw [beq_eq_false_iff_ne]; omega
        have hn2 : n ≤ 256 := by omega
        clear hn hnM
        go_wp2_with fail
        have W0 : Hid (OwnsC (w.alloc (.cells #[] 49)) w.heap.size (.slice (some ⟨w.heap.size, 0, none⟩) 0 0) ((crds ss).take 0) ∧ Old w (w.alloc (.cells #[] 49)) ∧ Fine ss 0) := ⟨OwnsC.empty w _ (Nat.le_refl _), Old.of_alloc _ _, fun j hj => by omega⟩
        go_loopw [7, 8] (fun v vi wr => ∃ i : Nat, i ≤ N ∧ vi = .int .i64 (i : Int) ∧ Hid (OwnsC wr w.heap.size v ((crds ss).take i) ∧ Old w wr ∧ Fine ss i)) (fun _ vi _ => N - (intOf vi).toNat)
        case atStart => exact ⟨0, Nat.zero_le _, rfl, W0⟩
        case round =>
          clear W0
          obtain ⟨i, hi, rfl, R⟩ := hrel
          by_cases hiN : i = N
          · have hiN' := hiN.symm
            subst hiN'
            have TA : (crds ss).take N = crds ss := List.take_of_length_le (by rw [crds_length, HS.out.1]; exact Nat.le_refl _)
            rw [TA] at R
            have ti : decide ((N : Int) < (N : Int)) = false := by simp
            obtain ⟨ac, cc, hv7, hcc, rc⟩ := R.out.1.rd
            rw [crds_length, HS.out.1] at hv7 hcc
            subst hv7
            rename World => wA
            have OR := hide R.out.2.1
            have FA := hide R.out.2.2
            have RC := hide rc
            clear TA R rc
            have hmk := make_u32 n (by omega)
            have n0 : (0 : Int) ≤ n := by omega
            go_upto_region 13 with fail
            go_cut [10, 11] from 68 to 73 (fun va vb wd => ∃ gs gw, va = .slice (some ⟨gs, 0, none⟩) n n ∧ vb = .slice (some ⟨gw, 0, none⟩) n n ∧ Hid (P2 wA gs gw (List.replicate n 0) (List.replicate n 0) wd))
            case first =>
              go_region
              all_goals
                go_wp2_with fail
                go_meet
                first
                  | exact ⟨_, _, rfl, rfl, (two_rows wA n).mono ((Old.refl _).drewN 1)⟩
                  | exact ⟨_, _, rfl, rfl, (two_rows wA n).swap.mono ((Old.refl _).drewN 1)⟩
            case rest =>
              obtain ⟨gs, gw, rfl, rfl, PP⟩ := hcut
              clear hmk
              obtain ⟨lost, hlost⟩ : ∃ lost, lost = gone % (N + 1) := ⟨_, rfl⟩
              have ll : lost ≤ N := by rw [hlost]; have := Nat.mod_lt gone (show 0 < N + 1 by omega); omega
              have EL : ((gone : Int) % ((N : Int) + 1)) = (lost : Int) := by rw [hlost]; simp
              clear hlost
              have W2 : Hid (P2 wA gs gw (vecZ n (sumZ ss xs n lost 0)) (vecZ n (wantZ xs lost 0)) wc) := by
                show P2 _ _ _ _ _ _
                rw [← sumZ_zero, ← wantZ_zero]
                exact PP.out
              have g0 : (0 : Int) ≤ gone := by omega
              have g1 : (gone : Int) ≤ 255 := by omega
              have nz : (((N : Int) + 1) == 0) = false := by rw [beq_eq_false_iff_ne]; omega
              go_wp2_with fail
              clear PP g0 g1 nz EL
              go_loopw [13] (fun vi wq => ∃ i : Nat, i ≤ N ∧ vi = .int .i64 (i : Int) ∧ Hid (P2 wA gs gw (vecZ n (sumZ ss xs n lost i)) (vecZ n (wantZ xs lost i)) wq)) (fun vi _ => N - (intOf vi).toNat)
              case atStart => exact ⟨0, Nat.zero_le _, rfl, W2⟩
              case round =>
                clear W2
                obtain ⟨i, hi, rfl, R⟩ := hrel
                by_cases hiN : i = N
                · have hiN' := hiN.symm
                  subst hiN'
                  have ti : decide ((N : Int) < (N : Int)) = false := by simp
                  have SN := HS.out.1
                  by_cases hlN : N ≤ lost
                  · have tl : decide ((lost : Int) < (N : Int)) = false := decide_eq_false (by omega)
                    have EE : vecZ n (sumZ ss xs n lost N) = vecZ n (wantZ xs lost N) := by
                      have := end_none ss xs n lost (by rw [SN]; exact hlN)
                      rw [SN] at this
                      exact this
                    rw [EE] at R
                    have WL := hide (vecZ_length n (wantZ xs lost N))
                    generalize vecZ n (wantZ xs lost N) = W at *
                    clear EE SN
                    have OO := hide (OR.out.trans R.out.old)
                    go_wp2_with fail
                    refine (awake17 KK.out _ (HQ.out.mono OO.out)).mono ?_
                    rintro e w5 ⟨rfl, o5⟩
                    have RS := hide (R.out.s.mono o5)
                    have RT := hide (R.out.t.mono o5)
                    have O5 := hide (OO.out.trans o5)
                    have SM := hide (R1.Cells_any n n W W (some ⟨gs, 0, none⟩) (some ⟨gw, 0, none⟩) n n w5 (by omega) WL.out WL.out RS.out.rd RT.out.rd)
                    rw [decide_eq_true (rfl : W = W)] at SM
                    clear RS RT R OO o5
                    go_wp2_with fail
                    refine SM.out.mono ?_
                    rintro e w6 ⟨rfl, o6⟩
                    go_wp2
                    go_ret
                    exact ⟨rfl, O5.out.trans o6⟩
                  · have hll : lost < N := by omega
                    have tl : decide ((lost : Int) < (N : Int)) = true := decide_eq_true (by omega)
                    obtain ⟨bc, oc, hac, -, -, -⟩ := RC.out lost _ (crds_get (by rw [SN]; exact hll))
                    subst hac
                    obtain ⟨b, off, x, rfl, Hx, hc0⟩ := HS.out.2.2.num (i := lost) (by rw [SN]; exact hll)
                    have gd : ss.getD lost 0 = x := by rw [List.getD_eq_getElem?_getD, Hx.out]; rfl
                    have lx := HS.out.2.1 x (List.mem_of_getElem? Hx.out)
                    have RC2 : Hid (CrdIn wr (some ⟨bc, oc, none⟩) (crds ss)) := RC.out.mono R.out.old
                    have CN : (crds ss).length = N := by rw [crds_length, SN]
                    have ER := rest_eq ss (lost := lost) (by rw [SN]; exact hll)
                    have OLt : ∀ j ∈ others ss.length lost, j < N := fun j hj => by rw [← SN]; exact others_lt _ _ j hj
                    have E0 : masksE ((lost : Int) + 1) x n (Mz.rest ss lost) = 0 := by
                      rw [← gd, ER]
                      exact crdsOf_E ss _ N hN SN FA.out (others_pair _ _) OLt hll hn2
                    have KL : CrdOk (Mz.rest ss lost) := by
                      rw [ER]
                      exact crdsOf_ok ss _ (fun j hj => by have := OLt j hj; omega)
                    obtain ⟨m, hm⟩ : ∃ m, (Mz.rest ss lost).length = m := ⟨_, rfl⟩
                    have hm6 : m ≤ 6 := by
                      rw [← hm]
                      unfold Mz.rest
                      rw [List.length_append, List.length_take, List.length_drop, CN]
                      omega
                    have CL : Hid (∀ (ar : Option Addr) (cr : Nat) (w' : World), Old wA w' → CrdIn w' ar (Mz.rest ss lost) → Calls Tryd.prog 18 #[.int .i64 ((lost : Int) + 1), .int .u64 (x : Nat), .slice ar m cr, .int .i64 (n : Nat)] w' fun e w'' =>
                        ∃ g, w'.heap.size ≤ g ∧ e = .returned (.tuple #[.slice (some ⟨g, 0, none⟩) n n, .int .i64 0]) ∧ Row w'' g 41 (nums .u32 (mskL ((lost : Int) + 1) (ss.getD lost 0) n true (Mz.rest ss lost))) ∧ Old w' w'') := fun ar cr w' o ci => by
                      have := MR.yes (KK.out.leftK ((lost : Int) + 1) x lx (Mz.rest ss lost) ar m cr hm (by omega) KL (n : Int) w' ci (HQ.out.mono (OR.out.trans o))) E0
                      rw [Int.toNat_natCast] at this
                      rw [gd]
                      exact this
                    have ES : Hid (List.zipWith sub32 (vecZ n (sumZ ss xs n lost N)) (mskL ((lost : Int) + 1) (ss.getD lost 0) n true (Mz.rest ss lost)) = vecZ n (wantZ xs lost N)) := by
                      have := end_some ss xs n lost (by rw [SN]; exact hll)
                      rw [SN] at this
                      exact this
                    have ML := hide (mskL_length ((lost : Int) + 1) (ss.getD lost 0) n true (Mz.rest ss lost))
                    have MB : Hid (∀ y ∈ mskL ((lost : Int) + 1) (ss.getD lost 0) n true (Mz.rest ss lost), y < 4294967296) := by
                      show ∀ y ∈ _, y < 4294967296
                      rw [mskL_Z]
                      exact vecZ_lt _ _
                    have AL := hide (vecZ_length n (sumZ ss xs n lost N))
                    have WL := hide (vecZ_length n (wantZ xs lost N))
                    generalize mskL ((lost : Int) + 1) (ss.getD lost 0) n true (Mz.rest ss lost) = ms at *
                    generalize vecZ n (sumZ ss xs n lost N) = A at *
                    generalize vecZ n (wantZ xs lost N) = W at *
                    have q0 : (0 : Int) ≤ lost := by omega
                    have q1 : (lost : Int) < N := by omega
                    have HM := hide hm
                    have HC := hide hc0
                    have HCN := hide CN
                    have HCC := hide hcc
                    clear gd ER OLt E0 KL SN hm hc0 Hx lx CN RC
                    go_wp2_with fail
                    refine Ssz.region (Ext := Old) 9 (fun w' : World => Old wr w') (Ssz.Apart []) [153, 154, 155, 156, 157, 158, 159, 160, 161]
                      [(153, own0C wr.heap.size), (154, Ssx.cst (.slice (some ⟨bc, oc, none⟩) N cc)), (155, Ssx.cst (.int .i64 (lost : Int))), (156, Ssx.cst (.slice (some ⟨bc, oc, none⟩) lost cc)), (157, ownC wr.heap.size ((crds ss).take lost)),
                       (158, Ssx.cst (.slice (some ⟨bc, oc, none⟩) N cc)), (159, Ssx.cst (.int .i64 (lost : Int))), (160, Ssx.cst (.int .i64 ((lost : Int) + 1))), (161, Ssx.cst (.slice (some (cutAt bc oc cc (lost + 1))) (N - (lost + 1)) (cc - (lost + 1))))]
                      [] (by kernel_rfl) (by kernel_rfl) (by kernel_rfl) (by simp) (by kernel_rfl) (by intro p hp; cases hp) (by kernel_rfl) (by kernel_rfl) Old.refl ((Old.refl _).drewN 1) ?apart ?good ?behind
                    case apart => exact ⟨fun s hs => by simp at hs, fun s hs => by simp at hs⟩
                    case good =>
                      have hE : ∀ w w' : World, Old w w' → w.heap.size ≤ w'.heap.size := fun _ _ h => h.size
                      have hB : ∀ w' : World, Old wr w' → wr.heap.size ≤ w'.heap.size := fun _ h => h.size
                      have hCo : ∀ w' w'' : World, Old wr w' → Old w' w'' → Old wr w'' := fun _ _ h1 h2 => h1.trans h2
                      refine And.intro (.inr ⟨by kernel_rfl, Ssz.keep (bld0C hB hCo rfl rfl (fun _ _ h => h)) hE (by kernel_rfl)⟩) ?_
                      refine And.intro (.inr ⟨by kernel_rfl, Ssz.keep (Ssx.mv Old.refl rfl rfl (fun _ _ h => h)) hE (by kernel_rfl)⟩) ?_
                      refine And.intro (.inr ⟨by kernel_rfl, Ssz.keep (Ssx.mv Old.refl rfl rfl (fun _ _ h => h)) hE (by kernel_rfl)⟩) ?_
                      refine And.intro (.inr ⟨by kernel_rfl, Ssz.keep (Ssx.val2 Old.refl (x := 154) (y := 155) (.slice (some ⟨bc, oc, none⟩) N cc) (.int .i64 (lost : Int)) (by simp [Op.operands]) (by simp [Op.operands]) rfl (fun _ _ h => h) (fun _ _ h => h) (fun ρ h1 h2 hc w => cutC_h (by omega) rfl h1 h2 w) (fun _ => rfl)) hE (by kernel_rfl)⟩) ?_
                      refine And.intro (.inr ⟨by kernel_rfl, Ssz.keep (app0C hB hCo rfl rfl ⟨bc, oc, none⟩ lost cc ((crds ss).take lost) (by rw [List.length_take, HCN.out]; omega) (by omega) (fun _ _ h => h) (fun _ _ h => h) (fun w' hC => crd_src ((RC2.out.mono hC).take lost)) (fun _ _ h => h)) hE (by kernel_rfl)⟩) ?_
                      refine And.intro (.inr ⟨by kernel_rfl, Ssz.keep (Ssx.mv Old.refl rfl rfl (fun _ _ h => h)) hE (by kernel_rfl)⟩) ?_
                      refine And.intro (.inr ⟨by kernel_rfl, Ssz.keep (Ssx.mv Old.refl rfl rfl (fun _ _ h => h)) hE (by kernel_rfl)⟩) ?_
                      refine And.intro (.inr ⟨by kernel_rfl, Ssz.keep (Ssx.val1 Old.refl (x := 159) (.int .i64 (lost : Int)) (by simp [Op.operands]) rfl (fun _ _ h => h) (fun ρ h1 hc w => by
                        have ew : IntKind.i64.wrap ((lost : Int) + 1) = (lost : Int) + 1 := by rw [IntKind.wrap_i64]; omega
                        unfold execOp
                        simp [h1, hc, go_sem, ew]) (fun _ => rfl)) hE (by kernel_rfl)⟩) ?_
                      refine And.intro (.inr ⟨by kernel_rfl, Ssz.keep (Ssx.val2 Old.refl (x := 158) (y := 160) (.slice (some ⟨bc, oc, none⟩) N cc) (.int .i64 ((lost : Int) + 1)) (by simp [Op.operands]) (by simp [Op.operands]) rfl (fun _ _ h => h) (fun _ _ h => h) (fun ρ h1 h2 hc w => cutC_l (by omega) HCC.out ((lost : Int) + 1) (by omega) rfl h1 h2 w) (fun _ => rfl)) hE (by kernel_rfl)⟩) ?_
                      exact trivial
                    case behind =>
                      intro vals w3 hC hD hv
                      have o157 : OwnsC w3 wr.heap.size (vals 157) ((crds ss).take lost) := hv _ (.tail _ (.tail _ (.tail _ (.tail _ (.head _)))))
                      have v161 : vals 161 = _ := hv _ (.tail _ (.tail _ (.tail _ (.tail _ (.tail _ (.tail _ (.tail _ (.tail _ (.head _)))))))))
                      simp only [Ssa.putAll, List.map_cons, List.map_nil, List.foldl_cons, List.foldl_nil, List.setIfInBounds_toArray, List.set_cons_succ, List.set_cons_zero, v161, List.drop_succ_cons, List.drop_zero]
                      refine wp_appendCs rfl _ _ rfl wr.heap.size (vals 157) ((crds ss).take lost) rfl o157 (cutAt bc oc cc (lost + 1)) (N - (lost + 1)) (cc - (lost + 1)) ((crds ss).drop (lost + 1)) rfl (by rw [List.length_drop, HCN.out]) (cut_src (RC2.out.mono hC) (by rw [HCN.out]; exact HCC.out) (by rw [HCN.out]; omega)) (by rw [List.length_take, HCN.out]; omega) hC.size ?_
                      rintro v2 w5 ow gr
                      have ow2 : OwnsC w5 wr.heap.size v2 (Mz.rest ss lost) := ow
                      obtain ⟨ar, cr, hv2, -, RR⟩ := ow2.rd
                      rw [HM.out] at hv2
                      subst hv2
                      have R5 := hide (R.out.mono (grownC hC gr (fun g e => (o157.lt e).1)))
                      have RR5 := hide RR
                      have hcx := (OR.out.trans R5.out.old).cell HC.out
                      clear ow ow2 RR gr hC hD hv o157 v161 RC2 HC R HM
                      generalize vals 153 = x153
                      generalize vals 154 = x154
                      generalize vals 155 = x155
                      generalize vals 156 = x156
                      generalize vals 157 = x157
                      generalize vals 158 = x158
                      generalize vals 159 = x159
                      generalize vals 160 = x160
                      try simp only [Act.put, List.setIfInBounds_toArray, List.set_cons_succ, List.set_cons_zero]
                      go_wp2_with fail
                      refine (CL.out ar cr w5 R5.out.old RR5.out).mono ?_
                      rintro e w6 ⟨gl, gl0, rfl, RL, o6⟩
                      have PV : Hid (P4 wA gs gw gl gl (vpart sub32 0 A ms) W ms ms w6) := by
                        have h1 := R5.out.s.lt
                        have h2 := R5.out.t.lt
                        show P4 _ _ _ _ _ _ _ _ _ _
                        rw [vpart_zero]
                        exact ⟨R5.out.mono o6, RL, RL, by omega, by omega, by omega, by omega⟩
                      clear R5 RR5 CL RL o6 gl0 hcx
                      go_wp2_with fail
                      go_loopw [22] (fun vk wr => ∃ k : Nat, k ≤ n ∧ vk = .int .i64 (k : Int) ∧ Hid (P4 wA gs gw gl gl (vpart sub32 k A ms) W ms ms wr)) (fun vk _ => n - (intOf vk).toNat)
                      case atStart => exact ⟨0, Nat.zero_le _, rfl, PV⟩
                      case round =>
                        clear PV
                        obtain ⟨k, hk, rfl, V⟩ := hrel
                        by_cases hkn : k = n
                        · have hkn' := hkn.symm
                          subst hkn'
                          have tk : decide ((n : Int) < (n : Int)) = false := by simp
                          have R2 : Hid (P2 wA gs gw W W wr) := by
                            show P2 _ _ _ _ _ _
                            have := V.out.p
                            rw [vpart_all _ n _ _ AL.out ML.out, ES.out] at this
                            exact this
                          have OO := hide (OR.out.trans R2.out.old)
                          clear V ES
                          go_wp2_with fail
                          refine (awake17 KK.out _ (HQ.out.mono OO.out)).mono ?_
                          rintro e w7 ⟨rfl, o7⟩
                          have RS := hide (R2.out.s.mono o7)
                          have RT := hide (R2.out.t.mono o7)
                          have O7 := hide (OO.out.trans o7)
                          have SM := hide (R1.Cells_any n n W W (some ⟨gs, 0, none⟩) (some ⟨gw, 0, none⟩) n n w7 (by omega) WL.out WL.out RS.out.rd RT.out.rd)
                          rw [decide_eq_true (rfl : W = W)] at SM
                          clear RS RT R2 OO o7
                          go_wp2_with fail
                          refine SM.out.mono ?_
                          rintro e w8 ⟨rfl, o8⟩
                          go_wp2
                          go_ret
                          exact ⟨rfl, O7.out.trans o8⟩
                        · have hkl : k < n := by omega
                          have tk : decide ((k : Int) < (n : Int)) = true := by simp; omega
                          have k0 : (0 : Int) ≤ k := by omega
                          have k1 : (k : Int) < n := by omega
                          have hAl : (vpart sub32 k A ms).length = n := by rw [vpart_length _ _ _ _ (by rw [AL.out, ML.out]), AL.out]
                          obtain ⟨a1, Ha, ca⟩ := V.out.p.s.num (i := k) (by rw [hAl]; exact hkl)
                          obtain ⟨l1, Hl, cl⟩ := V.out.v.num (i := k) (by rw [ML.out]; exact hkl)
                          have gA := vpart_get sub32 k A ms (by rw [AL.out, ML.out]) (by rw [AL.out]; exact hkl)
                          have VS := vpart_step sub32 k A ms (by rw [AL.out, ML.out]) a1 l1 (by rw [← gA]; exact Ha.out) Hl.out
                          have fs := V.out.p.s.free k
                          have V2 := hide (V.out.setS k (sub32 a1 l1))
                          rw [VS] at V2
                          have E1 := hide (sub32_int a1 l1 (MB.out l1 (List.mem_of_getElem? Hl.out)))
                          clear gA VS Ha Hl hAl
                          go_wp2_with fail
                          go_region
                          go_wp2
                          go_roundw
                          case rel =>
                            refine ⟨k + 1, by omega, by go_num, ?_⟩
                            rw [E1.out]
                            exact V2.out.mono ((Old.refl _).drewN 1)
                          case measure => simp [intOf]; omega
                · have hil : i < N := by omega
                  have ti : decide ((i : Int) < (N : Int)) = true := by simp; omega
                  have q0 : (0 : Int) ≤ i := by omega
                  have q1 : (i : Int) < N := by omega
                  by_cases hlo : i = lost
                  · have tl : ((i : Int) == (lost : Int)) = true := by rw [beq_iff_eq]; omega
                    have R2 : Hid (P2 wA gs gw (vecZ n (sumZ ss xs n lost (i + 1))) (vecZ n (wantZ xs lost (i + 1))) wr) := by
                      have e1 : sumZ ss xs n lost (i + 1) = sumZ ss xs n lost i := by subst hlo; exact sumZ_skip ss xs n i
                      have e2 : wantZ xs lost (i + 1) = wantZ xs lost i := by subst hlo; exact wantZ_skip xs i
                      show P2 _ _ _ _ _ _
                      rw [e1, e2]
                      exact R.out
                    clear R hlo
                    go_wp2
                    go_roundw
                    case rel => exact ⟨i + 1, by omega, by go_num, R2⟩
                    case measure => simp [intOf]; omega
                  · have tl : ((i : Int) == (lost : Int)) = false := by rw [beq_eq_false_iff_ne]; omega
                    obtain ⟨s, hsi, s1, s2, -⟩ := FA.out i hil
                    obtain ⟨b, off, x, rfl, Hx, hc0⟩ := HS.out.2.2.num (i := i) (by rw [HS.out.1]; exact hil)
                    have hxs : x = s := Option.some.inj (Hx.out.symm.trans hsi)
                    subst hxs
                    have gd : ss.getD i 0 = x := by rw [List.getD_eq_getElem?_getD, hsi]; rfl
                    have HC := hide ((OR.out.trans R.out.old).cell hc0)
                    have lx := HS.out.2.1 x (List.mem_of_getElem? hsi)
                    have E0 : masksE ((i : Int) + 1) x n (crds ss) = 0 := by
                      rw [← gd, crds_of]
                      exact crdsOf_E ss _ N hN HS.out.1 FA.out List.pairwise_lt_range (fun j hj => by rw [← HS.out.1]; exact List.mem_range.1 hj) hil hn2
                    have KC := hide (crdsOf_ok ss (List.range ss.length) (fun j hj => by have := List.mem_range.1 hj; rw [HS.out.1] at this; omega))
                    have CH : Hid (∀ w' : World, Old wA w' → Calls Tryd.prog 16 #[.slice ax n cx, .int .i64 ((i : Int) + 1), .agg (nums .u8 (sd1 i)).toArray, .int .u64 (x : Nat), .slice ac N cc] w' fun e w'' =>
                        ∃ g, w'.heap.size ≤ g ∧ e = .returned (.tuple #[.slice (some ⟨g, 0, none⟩) n n, .int .i64 0]) ∧ Row w'' g 41 (nums .u32 (hidV xs (ownV (sd1 i) n) (mskL ((i : Int) + 1) (ss.getD i 0) n false (crds ss)))) ∧ Old w' w'') := fun w' o => by
                      rw [gd]
                      exact MR.yes (KK.out.hideK xs ax n cx XL.out (by omega) XB.out ((i : Int) + 1) (sd1 i) (sd1_length i) (sd1_lt (by omega)) x lx (crds ss) ac N cc (by rw [crds_length, HS.out.1]) (by omega) KC.out w' (HX.out.mono (OR.out.trans o)) (RC.out.mono o) (HQ.out.mono (OR.out.trans o))) E0
                    have CO : Hid (∀ w' : World, Old wA w' → Calls Tryd.prog 11 #[.agg (nums .u8 (sd1 i)).toArray, .int .i64 (n : Nat)] w' fun e w'' =>
                        ∃ g, w'.heap.size ≤ g ∧ e = .returned (.slice (some ⟨g, 0, none⟩) n n) ∧ Row w'' g 41 (nums .u32 (ownV (sd1 i) n)) ∧ Old w' w'') := fun w' o => by
                      have := KK.out.ownK (sd1 i) (sd1_length i) (sd1_lt (by omega)) (n : Int) w' (HQ.out.mono (OR.out.trans o))
                      rw [show kept (n : Int) 256 = n by unfold kept; omega] at this
                      exact this
                    have HB := hide (hid_less ss xs (sd1 i) XL.out XB.out i)
                    have HL := hide (hidV_length XL.out (ownV_length (sd1 i) n) (mskL_length ((i : Int) + 1) (ss.getD i 0) n false (crds ss)))
                    have HV := hide (hidV_lt xs (ownV (sd1 i) n) (mskL ((i : Int) + 1) (ss.getD i 0) n false (crds ss)))
                    have OL := hide (ownV_length (sd1 i) n)
                    have OV := hide (ownV_lt (sd1 i) n)
                    have NS := hide (sumZ_next ss xs n hlo)
                    have NW := hide (wantZ_next XL.out XB.out hlo)
                    have AL := hide (vecZ_length n (sumZ ss xs n lost i))
                    have WL := hide (vecZ_length n (wantZ xs lost i))
                    generalize hidV xs (ownV (sd1 i) n) (mskL ((i : Int) + 1) (ss.getD i 0) n false (crds ss)) = vs at *
                    generalize ownV (sd1 i) n = os at *
                    rw [← HB.out] at NS
                    generalize vecZ n (sumZ ss xs n lost i) = A at *
                    generalize vecZ n (wantZ xs lost i) = W at *
                    have HI : Hid ((Tryd.prog.info? 32).map (·.size) = some (nums .u8 (sd1 i)).length) := info_k (sd1_length i)
                    have i8 : (i : Int) < 256 := by omega
                    clear hc0 hsi s1 s2 gd E0 hlo HB
                    have Z1 : Hid (Row (wr.alloc (.cells (nums .u8 (List.replicate 32 0)).toArray 32)) wr.heap.size 32 (nums .u8 (List.replicate 32 0))) := Row.new _ _ _
                    go_wp2_with (first
                      | (refine wp_store_whole rfl 32 _ _ rfl wr.heap.size rfl (nums .u8 (sd1 i)) rfl Z1.out HI.out (by rw [nums_length, nums_length, sd1_length, List.length_replicate]) (nums_oneCell _ _) ?_; rintro w2 h2
                         have RS : Hid (Row w2 wr.heap.size 32 (nums .u8 (sd1 i))) := by show Row _ _ _ _; rw [h2]; exact Z1.out.whole _
                         have OS : Hid (Old wr w2) := by show Old _ _; rw [h2]; exact (Old.of_alloc _ _).grown (grown_setRow _ _ _) (Nat.le_refl _)
                         clear h2 Z1))
                    have OA := hide (R.out.old.trans OS.out)
                    have RQ := hide (R.out.mono OS.out)
                    have HC2 := hide (OS.out.cell HC.out)
                    clear OS HC R
                    have B1 : Hid ((fun w' : World => Row w' wr.heap.size 32 (nums .u8 (sd1 i)) ∧ Old w2 w') (w2.drewN 1)) := ⟨RS.out.drewN 1, (Old.refl w2).drewN 1⟩
                    refine Ssx.region (Ext := Old) (fun w' : World => Row w' wr.heap.size 32 (nums .u8 (sd1 i)) ∧ Old w2 w') [93, 94, 95, 96, 97, 98, 99, 100, 101, 102, 92, 103, 104, 15, 16]
                      [(93, Ssx.cst (.slice ax n cx)), (94, Ssx.cst (.int .i64 (i : Int))), (95, Ssx.cst (.int .i64 ((i : Int) + 1))), (96, Ssx.cst (.agg (nums .u8 (sd1 i)).toArray)), (97, Ssx.cst (.slice (some ⟨b, off, none⟩) N cap0)), (98, Ssx.cst (.int .i64 (i : Int))), (99, Ssx.cst (.pointer (some ⟨b, off + i, none⟩))), (100, Ssx.cst (.int .u64 (x : Nat))), (101, Ssx.cst (.slice ac N cc)),
                       (102, freshM w2.heap.size .u32 41 n vs), (92, freshM w2.heap.size .u32 41 n vs), (103, fresh w2.heap.size .u32 41 n vs), (104, Ssx.cst (.int .i64 0)), (15, fresh w2.heap.size .u32 41 n vs), (16, Ssx.cst (.int .i64 0))]
                      [] (by kernel_rfl) (by kernel_rfl) (by kernel_rfl) (by kernel_rfl) (fun _ _ h => by cases h) (by kernel_rfl) (by kernel_rfl) (by kernel_rfl) B1.out ?good ?behind
                    case good =>
                      refine ⟨Ssx.mv Old.refl rfl rfl (fun _ _ h => h), Ssx.mv Old.refl rfl rfl (fun _ _ h => h),
                        Ssx.val1 Old.refl (x := 94) (.int .i64 (i : Int)) (by simp [Op.operands]) rfl (fun _ _ h => h) (fun ρ h1 hc w => by
                          have ew : IntKind.i64.wrap ((i : Int) + 1) = (i : Int) + 1 := by rw [IntKind.wrap_i64]; omega
                          unfold execOp
                          simp [h1, hc, go_sem, ew]) (fun _ => rfl),
                        Ssx.whole Old.refl rfl rfl wr.heap.size (nums .u8 (sd1 i)) (fun _ _ h => h) (fun _ h => h.1.range) Tryd.underlying32 rfl HI.out (fun _ => rfl), Ssx.mv Old.refl rfl rfl (fun _ _ h => h), Ssx.mv Old.refl rfl rfl (fun _ _ h => h),
                        Ssx.val2 Old.refl (x := 97) (y := 98) (.slice (some ⟨b, off, none⟩) N cap0) (.int .i64 (i : Int)) (by simp [Op.operands]) (by simp [Op.operands]) rfl (fun _ _ h => h) (fun _ _ h => h) (fun ρ h1 h2 hc w => by unfold execOp; simp [h1, h2, q0, q1, go_sem]) (fun _ => rfl),
                        Ssy.cell Old.refl rfl rfl ⟨b, off + i, none⟩ (.int .u64 (x : Nat)) (fun _ _ h => h) (fun _ h => h.2.cell HC2.out) Tryd.underlying23 rfl (fun _ => rfl), Ssx.mv Old.refl rfl rfl (fun _ _ h => h), ?_, Ssx.mv Old.refl rfl rfl (fun _ _ h => h),
                        mk_ext Old.refl 0 rfl rfl (fun _ _ ⟨u, h1, h2⟩ => ⟨_, _, h1, rfl, h2⟩), mk_ext Old.refl 1 rfl rfl (fun _ _ ⟨u, h1, h2⟩ => ⟨_, _, h1, rfl, rfl⟩), Ssx.asg Old.refl rfl rfl (fun _ _ h => h), Ssx.asg Old.refl rfl rfl (fun _ _ h => h), trivial⟩
                      refine Ssx.call rfl fun a' w' hC hop => ⟨16, #[.slice ax n cx, .int .i64 ((i : Int) + 1), .agg (nums .u8 (sd1 i)).toArray, .int .u64 (x : Nat), .slice ac N cc], ?_, ?_⟩
                      · have h1 : a'.eval (.tmp 93) = .slice ax n cx := hop 93 (by simp [Op.operands, Call.operands])
                        have h2 : a'.eval (.tmp 95) = .int .i64 ((i : Int) + 1) := hop 95 (by simp [Op.operands, Call.operands])
                        have h3 : a'.eval (.tmp 96) = .agg (nums .u8 (sd1 i)).toArray := hop 96 (by simp [Op.operands, Call.operands])
                        have h4 : a'.eval (.tmp 100) = .int .u64 (x : Nat) := hop 100 (by simp [Op.operands, Call.operands])
                        have h5 : a'.eval (.tmp 101) = .slice ac N cc := hop 101 (by simp [Op.operands, Call.operands])
                        simp [Act.eval] at h1 h2 h3 h4 h5
                        simp [h1, h2, h3, h4, h5, go_sem]
                      · exact (CH.out w' (OA.out.trans hC.2)).mono fun _ _ ⟨g, h0, h1, h2, h3⟩ => ⟨_, h1, ⟨hC.1.mono h3, hC.2.trans h3⟩, h3, ⟨_, rfl, ⟨g, Nat.le_trans hC.2.size h0, rfl, h2⟩⟩⟩
                    case behind =>
                      intro vals w3 hC hv
                      have h15 : (fresh w2.heap.size .u32 41 n vs).p (vals 15) w3 := hv _ (.tail _ (.tail _ (.tail _ (.tail _ (.tail _ (.tail _ (.tail _ (.tail _ (.tail _ (.tail _ (.tail _ (.tail _ (.tail _ (.head _))))))))))))))
                      have h16 : vals 16 = .int .i64 0 := hv _ (.tail _ (.tail _ (.tail _ (.tail _ (.tail _ (.tail _ (.tail _ (.tail _ (.tail _ (.tail _ (.tail _ (.tail _ (.tail _ (.tail _ (.head _)))))))))))))))
                      obtain ⟨gv, gv0, e15, RV⟩ := h15
                      have RS3 := hide hC.1
                      have RQ3 := hide (RQ.out.mono hC.2)
                      have OA3 := hide (OA.out.trans hC.2)
                      have vne : gs ≠ gv ∧ gw ≠ gv := by
                        have h1 := RQ.out.s.lt
                        have h2 := RQ.out.t.lt
                        omega
                      clear hC hv RS B1 CH HC2 RQ OA
                      simp only [Ssa.putAll, Act.put, List.map_cons, List.map_nil, List.foldl_cons, List.foldl_nil, List.setIfInBounds_toArray, List.set_cons_succ, List.set_cons_zero]
                      rw [e15, h16]
                      clear e15 h16
                      generalize vals 93 = x93
                      generalize vals 94 = x94
                      generalize vals 95 = x95
                      generalize vals 96 = x96
                      generalize vals 97 = x97
                      generalize vals 98 = x98
                      generalize vals 99 = x99
                      generalize vals 100 = x100
                      generalize vals 101 = x101
                      generalize vals 102 = x102
                      generalize vals 92 = x92
                      generalize vals 103 = x103
                      generalize vals 104 = x104
                      rename_i K0 hK
                      refine hK _ w3 ?_
                      clear hK
                      go_wp2_with (refine wp_load_whole rfl 32 _ rfl wr.heap.size rfl RS3.out Tryd.underlying32 rfl HI.out ?_)
                      refine (CO.out _ OA3.out).mono ?_
                      rintro e w4 ⟨go, go0, rfl, RO, o4⟩
                      have PV : Hid (P4 wA gs gw gv go (vpart add32 0 A (List.zipWith sub32 vs os)) (vpart add32 0 W xs) vs os w4) := by
                        have h1 := RQ3.out.s.lt
                        have h2 := RQ3.out.t.lt
                        show P4 _ _ _ _ _ _ _ _ _ _
                        rw [vpart_zero, vpart_zero]
                        exact ⟨RQ3.out.mono o4, RV.mono o4, RO, fun e => vne.1 e.symm, fun e => vne.2 e.symm, by omega, by omega⟩
                      clear RS3 RQ3 OA3 CO RV RO o4 vne gv0 go0
                      have RD : Hid (∀ k v o, vs[k]? = some v → os[k]? = some o → (List.zipWith sub32 vs os)[k]? = some (sub32 v o)) := fun k v o h1 h2 => zw_get h1 h2
                      have DL : Hid ((List.zipWith sub32 vs os).length = n) := by show _ = _; rw [List.length_zipWith, HL.out, OL.out, Nat.min_self]
                      generalize List.zipWith sub32 vs os = D at *
                      go_wp2_with fail
                      go_loopw [18] (fun vk wr => ∃ k : Nat, k ≤ n ∧ vk = .int .i64 (k : Int) ∧ Hid (P4 wA gs gw gv go (vpart add32 k A D) (vpart add32 k W xs) vs os wr)) (fun vk _ => n - (intOf vk).toNat)
                      case atStart => exact ⟨0, Nat.zero_le _, rfl, PV⟩
                      case round =>
                        clear PV
                        obtain ⟨k, hk, rfl, V⟩ := hrel
                        by_cases hkn : k = n
                        · have hkn' := hkn.symm
                          subst hkn'
                          have tk : decide ((n : Int) < (n : Int)) = false := by simp
                          have R2 : Hid (P2 wA gs gw (vecZ n (sumZ ss xs n lost (i + 1))) (vecZ n (wantZ xs lost (i + 1))) wr) := by
                            show P2 _ _ _ _ _ _
                            rw [← NS.out, ← NW.out, ← vpart_all _ n _ _ AL.out DL.out, ← vpart_all _ n _ _ WL.out XL.out]
                            exact V.out.p
                          clear V NS NW
                          go_wp2
                          go_roundw
                          case rel => exact ⟨i + 1, by omega, by go_num, R2⟩
                          case measure => simp [intOf]; omega
                        · have hkl : k < n := by omega
                          have tk : decide ((k : Int) < (n : Int)) = true := by simp; omega
                          have k0 : (0 : Int) ≤ k := by omega
                          have k1 : (k : Int) < n := by omega
                          have hAl : (vpart add32 k A D).length = n := by rw [vpart_length _ _ _ _ (by rw [AL.out, DL.out]), AL.out]
                          have hWl : (vpart add32 k W xs).length = n := by rw [vpart_length _ _ _ _ (by rw [WL.out, XL.out]), WL.out]
                          obtain ⟨a1, Ha, ca⟩ := V.out.p.s.num (i := k) (by rw [hAl]; exact hkl)
                          obtain ⟨v1, Hv, cv⟩ := V.out.v.num (i := k) (by rw [HL.out]; exact hkl)
                          obtain ⟨o1, Ho, co⟩ := V.out.o.num (i := k) (by rw [OL.out]; exact hkl)
                          have gA := vpart_get add32 k A D (by rw [AL.out, DL.out]) (by rw [AL.out]; exact hkl)
                          have VS := vpart_step add32 k A D (by rw [AL.out, DL.out]) a1 (sub32 v1 o1) (by rw [← gA]; exact Ha.out) (RD.out k v1 o1 Hv.out Ho.out)
                          have fs := V.out.p.s.free k
                          have V2 := hide (V.out.setS k (add32 a1 (sub32 v1 o1)))
                          rw [VS] at V2
                          have E2 := hide (add_sub_int a1 v1 o1 (OV.out o1 (List.mem_of_getElem? Ho.out)))
                          obtain ⟨bx, ox, x1, rfl, Hx1, cx0⟩ := HX.out.num (i := k) (by rw [XL.out]; exact hkl)
                          have CX := hide cx0
                          clear gA VS Ha Hv Ho hAl cx0
                          go_wp2_with fail
                          go_region
                          rw [E2.out]
                          have V3 : Hid (P4 wA gs gw gv go (vpart add32 (k + 1) A D) (vpart add32 k W xs) vs os (wr.setCell ⟨gs, k, none⟩ (.int .u32 ((add32 a1 (sub32 v1 o1) : Nat) : Int))).drew) := V2.out.mono ((Old.refl _).drewN 1)
                          generalize hw5 : (wr.setCell ⟨gs, k, none⟩ (.int .u32 ((add32 a1 (sub32 v1 o1) : Nat) : Int))).drew = w5 at *
                          clear hw5 V2 V ca cv co fs
                          have cx5 := (OR.out.trans V3.out.p.old).cell CX.out
                          obtain ⟨b1, Hb, cb⟩ := V3.out.p.t.num (i := k) (by rw [hWl]; exact hkl)
                          have gW := vpart_get add32 k W xs (by rw [WL.out, XL.out]) (by rw [WL.out]; exact hkl)
                          have VT := vpart_step add32 k W xs (by rw [WL.out, XL.out]) b1 x1 (by rw [← gW]; exact Hb.out) Hx1.out
                          have ft := V3.out.p.t.free k
                          have V4 := hide (V3.out.setT k (add32 b1 x1))
                          rw [VT] at V4
                          have E3 := hide (add32_int b1 x1)
                          clear gW VT Hb hWl CX Hx1
                          go_wp2_with fail
                          go_region
                          go_wp2
                          go_roundw
                          case rel =>
                            refine ⟨k + 1, by omega, by go_num, ?_⟩
                            rw [E3.out]
                            exact V4.out.mono ((Old.refl _).drewN 1)
                          case measure => simp [intOf]; omega
          · have hil : i < N := by omega
            have ti : decide ((i : Int) < (N : Int)) = true := by simp; omega
            have q0 : (0 : Int) ≤ i := by omega
            have q1 : (i : Int) < N := by omega
            obtain ⟨b, off, x, rfl, Hx, hc0⟩ := HS.out.2.2.num (i := i) (by rw [HS.out.1]; exact hil)
            have lx := HS.out.2.1 x (List.mem_of_getElem? Hx.out)
            have hcc := R.out.2.1.cell hc0
            have CP : Hid (∀ w, Calls Tryd.prog 19 #[.int .u64 37, .int .u64 x] w fun e w' => e = .returned (.int .u64 (powP 37 x : Nat)) ∧ w' = w) := fun w => R1.Pow_any 37 x (by omega) lx w
            have CS := hide (R1Secret_any x)
            have CG := hide (R1Good_any (powP 37 x))
            have TK : Hid ((crds ss).take i ++ [⟨(i : Int) + 1, 0, powP 37 x⟩] = (crds ss).take (i + 1)) := by
              show _ = _
              rw [List.take_add_one, crds_get (by rw [HS.out.1]; exact hil)]
              simp [List.getD_eq_getElem?_getD, Hx.out]
            have FN : Hid (1 ≤ x → x ≤ 2305843009213693949 → goodP (powP 37 x) = true → Fine ss (i + 1)) := fun h1 h2 h3 j hj => by
              by_cases e : j = i
              · subst e; exact ⟨x, Hx.out, h1, h2, h3⟩
              · exact R.out.2.2 j (by omega)
            generalize powP 37 x = key at *
            clear hc0
            have AW := hide (fun (w' : World) (o : Old w w') => awake17 KK.out w' (HQ.out.mono o))
            cases hsec : (decide (1 ≤ x) && decide (x ≤ 2305843009213693949))
            · rw [hsec] at CS
              clear hsec FN TK
              go_wp2_with fail
              refine (CP.out _).mono ?_
              rintro e w2 ⟨rfl, rfl⟩
              go_wp2_with fail
              refine (CS.out _).mono ?_
              rintro e w2 ⟨rfl, rfl⟩
              go_wp2_with fail
              refine (AW.out _ R.out.2.1).mono ?_
              rintro e w2 ⟨rfl, o2⟩
              go_wp2
              go_ret
              exact ⟨rfl, R.out.2.1.trans o2⟩
            · rw [hsec] at CS
              have h12 : 1 ≤ x ∧ x ≤ 2305843009213693949 := by simpa using hsec
              clear hsec
              cases hgd : goodP key
              · rw [hgd] at CG
                clear hgd FN TK
                go_wp2_with fail
                refine (CP.out _).mono ?_
                rintro e w2 ⟨rfl, rfl⟩
                go_wp2_with fail
                refine (CS.out _).mono ?_
                rintro e w2 ⟨rfl, rfl⟩
                go_wp2_with fail
                refine (CG.out _).mono ?_
                rintro e w2 ⟨rfl, rfl⟩
                go_wp2_with fail
                refine (AW.out _ R.out.2.1).mono ?_
                rintro e w2 ⟨rfl, o2⟩
                go_wp2
                go_ret
                exact ⟨rfl, R.out.2.1.trans o2⟩
              · rw [hgd] at CG
                have F2 := hide (FN.out h12.1 h12.2 hgd)
                clear hgd FN h12 AW
                have OW1 := hide (R.out.1.mono (Old.of_alloc wr (.cells #[.int .i64 ((i : Int) + 1), .int .u64 0, .int .u64 (key : Nat)] 49)))
                have RY : Hid (Row (wr.alloc (.cells #[.int .i64 ((i : Int) + 1), .int .u64 0, .int .u64 (key : Nat)] 49)) wr.heap.size 49 (Crd.cells ⟨(i : Int) + 1, 0, key⟩)) := Row.new wr 49 [.int .i64 ((i : Int) + 1), .int .u64 0, .int .u64 (key : Nat)]
                have HN : Hid (((crds ss).take i).length < 1000000) := by
                  show _ < _
                  rw [List.length_take]
                  omega
                have O2 := hide (R.out.2.1.alloc (.cells #[.int .i64 ((i : Int) + 1), .int .u64 0, .int .u64 (key : Nat)] 49))
                have HZ := hide O2.out.size
                go_wp2_with fail
                refine (CP.out _).mono ?_
                rintro e w2 ⟨rfl, rfl⟩
                go_wp2_with fail
                refine (CS.out _).mono ?_
                rintro e w2 ⟨rfl, rfl⟩
                go_wp2_with fail
                refine (CG.out _).mono ?_
                rintro e w2 ⟨rfl, rfl⟩
                go_wp2_with (refine wp_appendC rfl _ _ rfl w.heap.size _ ((crds ss).take i) rfl OW1.out _ 1 ⟨(i : Int) + 1, 0, key⟩ rfl RY.out HN.out HZ.out ?_; rintro v2 w5 ow gr)
                have R2 : Hid (OwnsC w5 w.heap.size v2 ((crds ss).take (i + 1)) ∧ Old w w5 ∧ Fine ss (i + 1)) := ⟨by rw [← TK.out]; exact ow, grownC O2.out gr (fun g e => (OW1.out.lt e).1), F2.out⟩
                clear ow gr OW1 RY HN O2 HZ TK R
                go_roundw
                case rel => exact ⟨i + 1, by omega, by go_num, R2⟩
                case measure => simp [intOf]; omega
end Go.Proofs.YtjbpnhibgafdmaaDoor
