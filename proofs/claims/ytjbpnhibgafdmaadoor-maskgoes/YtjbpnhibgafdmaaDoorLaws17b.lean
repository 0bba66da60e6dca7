/-
  Layer 17's statement MaskHides, if the layer's calls are what they owe.
-/
import Derived.Test.YtjbpnhibgafdmaaDoorLaws17
namespace Go.Proofs.YtjbpnhibgafdmaaDoor
open Go.RowKit Cha M Vec Sl Mk
set_option linter.unusedVariables false

theorem hidV_get {xs ys zs : List Nat} {i x y z : Nat} (hx : xs[i]? = some x) (hy : ys[i]? = some y) (hz : zs[i]? = some z) : (hidV xs ys zs)[i]? = some (add32 (add32 x y) z) := by
  simp [hidV, List.getElem?_zipWith, hx, hy, hz]
theorem sum3' (x y z : Nat) : ((x : Int) + (y : Int) + (z : Int)) % 4294967296 = ((add32 (add32 x y) z : Nat) : Int) := by
  rw [← add32_int, ← add32_int]
  omega

set_option maxRecDepth 100000 in
set_option maxHeartbeats 4000000 in
theorem walkK_MaskHides (K : MaskK) (v0 v1 v2 v3 v4 : Value) (w : World) (w0 : IsNums .u32 4294967296 35184372088832 w v0) (w1 : IsInt .i64 v1) (w2 : IsArr .u8 256 32 v2) (w3 : IsInt .u64 v3) (w4 : IsCards w v4) (qt : QTab w) :
    Calls Tryd.prog 4 #[v0, v1, v2, v3, v4] w fun e w' => e = .returned (.bool true) ∧ Old w w' := by
  obtain ⟨ax, n, cx, xs, rfl, hxl, hxb, rx, hnM, hcx⟩ := w0
  obtain ⟨who, rfl⟩ := mkI w1
  obtain ⟨sd, rfl, hl, hb⟩ := w2
  obtain ⟨s, hs, rfl⟩ := mk64 w3
  obtain ⟨a, cap, l0, rfl, hc, hlm, rd, hk⟩ := w4
  have HQ := hide qt
  have KK := hide K
  have HX := hide rx
  have XL := hide hxl
  have HI : Hid ((Tryd.prog.info? 22).map (·.size) = some (nums .u8 sd).length) := info_k' hl
  have R0 : Hid (Row (w.alloc (.cells (nums .u8 sd).toArray 22)) w.heap.size 22 (nums .u8 sd)) := Row.new w _ _
  have O0 := hide (Old.of_alloc w (.cells (nums .u8 sd).toArray 22))
  have CF := hide (few_any l0 a cap hc (w.alloc (.cells (nums .u8 sd).toArray 22)) (rd.mono O0.out))
  have C1 := hide (fun (w' : World) (o : Old w w') => K.hideK xs ax n cx hxl hnM hxb who sd hl hb s hs (fewL l0) a (fewL l0).length cap rfl (fewL_le hlm) (fewL_ok hk) w' (rx.mono o) ((fewL_in rd).mono o) (qt.mono o))
  have C2 := hide (fun (w' : World) (o : Old w w') => refMasks_all who s hs (fewL l0) a (fewL l0).length cap rfl (fewL_le hlm) (fewL_ok hk) (n : Int) false w' ((fewL_in rd).mono o))
  rw [Int.toNat_natCast] at C2
  have NB : Hid (masksE who s n (fewL l0) = 0 → n ≤ 256) := fun h => by
    have := argB_n (masksE_zero h)
    omega
  have ML := hide (mskL_length who s n false (fewL l0))
  have C3 : Hid (n ≤ 256 → ∀ w' : World, Calls Tryd.prog 12 #[.agg (nums .u8 sd).toArray, .int .i64 (n : Nat)] w' fun e w'' => ∃ g, w'.heap.size ≤ g ∧ e = .returned (.slice (some ⟨g, 0, none⟩) n n) ∧ Row w'' g 41 (nums .u32 (ownV sd n)) ∧ Old w' w'') := fun h w' => by
    have := refOwn_any sd hl hb (n : Int) w'
    rw [show kept (n : Int) 256 = n by unfold kept; omega] at this
    exact this
  have VL := hide (ownV_length sd n)
  have HL := hide (hidV_length hxl (ownV_length sd n) (mskL_length who s n false (fewL l0)))
  have HG : Hid (∀ i x y z, xs[i]? = some x → (ownV sd n)[i]? = some y → (mskL who s n false (fewL l0))[i]? = some z → (hidV xs (ownV sd n) (mskL who s n false (fewL l0)))[i]? = some (add32 (add32 x y) z)) := fun i x y z h1 h2 h3 => hidV_get h1 h2 h3
  generalize hidV xs (ownV sd n) (mskL who s n false (fewL l0)) = hs' at *
  generalize mskL who s n false (fewL l0) = ms at *
  generalize ownV sd n = vs at *
  generalize fewL l0 = l at *
  generalize masksE who s n l = E at *
  clear K w1 w3 qt hc hlm rd hk hs hl hb rx hxl hxb hcx
  by_cases hE : E = 0
  · have D1 := hide (fun (w' : World) (o : Old w w') => MR.yes (C1.out w' o) hE)
    have D2 := hide (fun (w' : World) (o : Old w w') => MR.yes (C2.out w' o) hE)
    have N2 := NB.out hE
    have D3 := hide (C3.out N2)
    clear C1 C2 C3 NB hE hnM
    go_enter Tryd.func4, Tryd.ntmps4
    go_wp2_with fail
    refine CF.out.mono ?_
    rintro e w1 ⟨rfl, rfl⟩
    clear CF
    go_wp2_with (refine wp_load_whole rfl 22 _ rfl w.heap.size rfl R0.out Tryd.underlying22 rfl HI.out ?_)
    refine (D1.out _ O0.out).mono ?_
    rintro e w2 ⟨g, -, rfl, R2, o2⟩
    have RS := hide (R0.out.mono o2)
    have O2 := hide (O0.out.trans o2)
    clear D1 R0 o2 O0
    go_wp2_with fail
    refine (D2.out _ O2.out).mono ?_
    rintro e w3 ⟨g3, -, rfl, R3, o3⟩
    have RS3 := hide (RS.out.mono o3)
    have O3 := hide (O2.out.trans o3)
    have R23 := R2.mono o3
    clear D2 RS O2 o3 R2
    go_wp2_with (refine wp_load_whole rfl 22 _ rfl w.heap.size rfl RS3.out Tryd.underlying22 rfl HI.out ?_)
    refine (D3.out _).mono ?_
    rintro e w4 ⟨g4, -, rfl, R4, o4⟩
    have O4 := hide (O3.out.trans o4)
    have R24 := hide (R23.mono o4)
    have R34 := hide (R3.mono o4)
    have R44 := hide R4
    clear D3 RS3 O3 o4 R23 R3 R4
    go_wp2_with fail
    go_loopw [16] (fun vi wr => ∃ i : Nat, i ≤ n ∧ vi = .int .i64 (i : Int) ∧ Hid (Old w4 wr)) (fun vi _ => n - (intOf vi).toNat)
    case atStart => exact ⟨0, Nat.zero_le _, rfl, Old.refl _⟩
    case round =>
      obtain ⟨i, hi, rfl, O⟩ := hrel
      by_cases hin : i = n
      · subst hin
        have OO := hide (O4.out.trans O.out)
        have ti : decide ((i : Int) < (i : Int)) = false := by simp
        go_wp2_with fail
        refine (awake17 KK.out _ (HQ.out.mono OO.out)).mono ?_
        rintro e w5 ⟨rfl, o5⟩
        go_wp2
        go_ret
        exact ⟨rfl, OO.out.trans o5⟩
      · have hlt : i < n := by omega
        have ti : decide ((i : Int) < (n : Int)) = true := by simp; omega
        have q0 : (0 : Int) ≤ i := by omega
        have q1 : (i : Int) < n := by omega
        obtain ⟨bx, ox, x, rfl, Hx, cx0⟩ := HX.out.num (i := i) (by rw [XL.out]; exact hlt)
        have cxx := (O4.out.trans O.out).cell cx0
        obtain ⟨y, Hy, cy⟩ := (R44.out.mono O.out).num (i := i) (by rw [VL.out]; exact hlt)
        obtain ⟨z, Hz, cz⟩ := (R34.out.mono O.out).num (i := i) (by rw [ML.out]; exact hlt)
        have HO := HG.out i x y z Hx.out Hy.out Hz.out
        have co : wr.cell? ⟨g, i, none⟩ = some (.int .u32 ((add32 (add32 x y) z : Nat) : Int)) := (R24.out.mono O.out).cell (by simp [nums, HO])
        have SE : (((add32 (add32 x y) z : Nat) : Int) != ((x : Int) + (y : Int) + (z : Int)) % 4294967296) = false := by
          rw [sum3', bne_self_eq_false]
        generalize add32 (add32 x y) z = o at *
        clear cx0 HO Hy Hz
        go_wp2_with fail
        go_quiet (fail)
        go_wp2
        go_roundw
        case rel => exact ⟨i + 1, by omega, by go_num, O.out.drewN _⟩
        case measure => simp [intOf]; omega
  · have D1 := hide (fun (w' : World) (o : Old w w') => MR.no (C1.out w' o) hE)
    have D2 := hide (fun (w' : World) (o : Old w w') => MR.no (C2.out w' o) hE)
    have tE : ((E : Int) != 0) = true := by rw [bne_iff_ne]; omega
    clear C1 C2 C3 NB hE
    go_enter Tryd.func4, Tryd.ntmps4
    go_wp2_with fail
    refine CF.out.mono ?_
    rintro e w1 ⟨rfl, rfl⟩
    clear CF
    go_wp2_with (refine wp_load_whole rfl 22 _ rfl w.heap.size rfl R0.out Tryd.underlying22 rfl HI.out ?_)
    refine (D1.out _ O0.out).mono ?_
    rintro e w2 ⟨rfl, o2⟩
    have O2 := hide (O0.out.trans o2)
    clear D1 R0 o2 O0
    go_wp2_with fail
    refine (D2.out _ O2.out).mono ?_
    rintro e w3 ⟨rfl, o3⟩
    have O3 := hide (O2.out.trans o3)
    clear D2 O2 o3
    go_wp2_with fail
    refine (awake17 KK.out _ (HQ.out.mono O3.out)).mono ?_
    rintro e w4 ⟨rfl, o4⟩
    go_wp2
    go_ret
    exact ⟨by first | rfl | simp, O3.out.trans o4⟩
end Go.Proofs.YtjbpnhibgafdmaaDoor
