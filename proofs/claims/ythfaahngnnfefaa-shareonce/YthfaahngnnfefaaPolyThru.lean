/-
  poly.Through, poly.Zero: the polynomial through some points, and its value at 0; so all of layer 6's calls are what they owe.
-/
import Derived.Test.YthfaahngnnfefaaPolyMul
import Derived.Test.YthfaahngnnfefaaPolyAsk
import Derived.Test.YthfaahngnnfefaaNewton
namespace Go.Proofs.Ythfaahngnnfefaa
open Go.RowKit M Pm
set_option linter.unusedVariables false

theorem nums_of {w : World} {a : Option Addr} {k cap : Nat} {s : List Nat} (hl : s.length = k) (hc : k ≤ cap) (hb : ∀ y ∈ s, y < 2305843009213693951) (rd : Rd w a (nums .u64 s)) : Nums w a k cap s :=
  ⟨hl, hc, fun y hy => by have := hb y hy; omega, rd⟩
theorem polyAt_nums {w : World} {a : Option Addr} {k cap : Nat} {s : List Nat} (h : Nums w a k cap s) (hk : k ≤ 1048576) (x : Nat) (hx : x < 18446744073709551616) :
    Calls Try.prog 34 #[.slice a k cap, .int .u64 (x : Nat)] w fun e w' => e = .returned (.int .u64 (evN s x : Nat)) ∧ ∃ m, w' = w.drewN m :=
  polyAt_any s k x a cap w h.1 (by omega) h.2.2.1 hx h.2.2.2
theorem polyAt_owes : AtC := fun l n x a cap w h hn hx => (polyAt_nums h hn x hx).mono fun e w' ⟨h1, m, h2⟩ => ⟨h1, by rw [h2]; exact Old.of_drewN _ _⟩

set_option maxHeartbeats 4000000 in
theorem polyThrough_any : ThroughC := by
  intro ps n a cap w hp hn
  have HP := hide hp
  have C1 := hide (fault_any ps n a cap w hp hn)
  clear hp
  by_cases he : errOf ps = 0
  · rw [he] at C1 ⊢
    have S := hide (sound_of he)
    have hl : ps.length = n := HP.out.1
    have n64 : n ≤ 64 := by have := S.out.le; omega
    have HL := hide hl
    clear hl
    go_enter Try.func32, Try.ntmps32
    go_wp2_with fail
    refine C1.out.mono ?_
    rintro e w1 ⟨rfl, o1⟩
    clear C1
    have B0 := hide (rd_new (w := w1) (s := w1.heap.size) rfl (t := 22) (cs := #[.int .u64 1]) (vs := nums .u64 [1]) rfl)
    have O1 := hide (o1.alloc (.cells #[.int .u64 1] 22))
    go_wp2_with fail
    go_loopw [5, 6, 21] (fun vp vb vi wr => ∃ (i : Nat) (p b : List Nat) (rp rb : Option Addr) (kp cp kb cb : Nat), i ≤ n ∧ vi = .int .i64 (i : Nat) ∧ vp = .slice rp kp cp ∧ vb = .slice rb kb cb ∧ Hid (Newton ps i p kp b kb) ∧ Hid (Nums wr rp kp cp p) ∧ Hid (Nums wr rb kb cb b) ∧ Old w wr) (fun _ _ vi _ => (n - intOf vi).toNat)
    case atStart => exact ⟨0, [], [1], none, _, 0, 0, 1, 1, by omega, rfl, rfl, rfl, Newton.start ps, ⟨rfl, Nat.le_refl _, by simp, Rd.nil _⟩, ⟨rfl, Nat.le_refl _, by simp, B0.out⟩, O1.out⟩
    case round =>
      clear B0 O1 o1
      obtain ⟨i, p, b, rp, rb, kp, cp, kb, cb, hi, rfl, rfl, rfl, N, NP, NB, hol⟩ := hrel
      by_cases hin : i = n
      · subst hin
        have hd : decide ((i : Int) < i) = false := decide_eq_false (by omega)
        go_wp2
        go_ret2
        exact ⟨hol, p, rp, kp, cp, rfl, NP.out.2.1, fun h => absurd rfl h, fun _ => ⟨N.out.lp, N.out.hp, N.out.bp, N.out.tp, N.out.vp, NP.out.2.2.2⟩⟩
      · have hil : i < n := by omega
        obtain ⟨b0, off, z, v, rfl, AT, hc1, hc2, hz, hv⟩ := (HP.out.mono hol).at hil
        have h0 : (0 : Int) ≤ i := by omega
        have h1 : (i : Int) < n := by omega
        have IR := S.out.inr i (by rw [HL.out]; exact hil)
        rw [AT.out.1, AT.out.2] at IR
        obtain ⟨zi, rfl⟩ : ∃ zi : Nat, z = zi := ⟨z.toNat, by omega⟩
        obtain ⟨j1, j2, j3⟩ := IR
        have kpb : kp ≤ 64 := by have := N.out.hp; omega
        have kbb : kb ≤ 65 := by have := N.out.hb; omega
        have EX : Hid (ptX ps i = F zi) := by show _ = _; unfold ptX; rw [AT.out.1]; rfl
        have EY : Hid (ptY ps i = F v) := by show _ = _; unfold ptY; rw [AT.out.2]
        have lp := evN_lt p zi
        have lb := evN_lt b zi
        have nb : 1 ≤ md (evN b zi) := by
          rw [md_of_lt lb]
          apply Nat.pos_of_ne_zero
          intro h
          have h2 := F_evN b zi
          rw [h, N.out.vb, ← EX.out] at h2
          exact base_other (fun j hj => apart_X S.out i j (by rw [HL.out]; exact hil) (by rw [HL.out]; omega) (by omega)) h2.symm
        go_wp2_with fail
        obtain ⟨W, hW⟩ : ∃ W, W = wr.alloc (.cells #[.int .i64 (zi : Int), .int .u64 (v : Nat)] 30) := ⟨_, rfl⟩
        have cw : W.cell? ⟨wr.heap.size, 1, none⟩ = some (.int .u64 (v : Nat)) := by
          rw [hW]; exact (Row.new wr 30 [.int .i64 (zi : Int), .int .u64 (v : Nat)]).cell (i := 1) rfl
        have OW : Old wr W := by rw [hW]; exact Old.of_alloc _ _
        rw [← hW]
        clear hW hc1 hc2
        have NP1 := hide (NP.out.mono OW)
        have NB1 := hide (NB.out.mono OW)
        have O1 := hol.trans OW
        clear NP NB hol OW
        have CP : Hid (∀ m, Calls Try.prog 34 #[.slice rp kp cp, .int .u64 (zi : Nat)] (W.drewN m) fun e w' => e = .returned (.int .u64 (evN p zi : Nat)) ∧ ∃ m', w' = (W.drewN m).drewN m') := fun m => polyAt_nums (NP1.out.mono (Old.of_drewN _ _)) (by omega) zi (by omega)
        have gs := subP_lt v (evN p zi)
        obtain ⟨gap, hgap⟩ : ∃ gap, gap = subP v (evN p zi) := ⟨_, rfl⟩
        have CS : Hid (∀ w, Calls Try.prog 36 #[.int .u64 (v : Nat), .int .u64 (evN p zi : Nat)] w fun e w' => e = .returned (.int .u64 (gap : Nat)) ∧ w' = w) := fun w => by rw [hgap]; exact Sub_any v (evN p zi) hv (by omega) w
        rw [← hgap] at gs
        have GAP := hide hgap
        clear hgap
        go_quiet (first
          | exact Calls.quiet_of (CP.out _)
          | exact Calls.quiet_of_same (CS.out _))
        have NP2 := hide (NP1.out.mono (Old.of_drewN W nq))
        have NB2 := hide (NB1.out.mono (Old.of_drewN W nq))
        have O2 := O1.drewN nq
        clear NP1 NB1 O1 CP CS cw
        revert NP2 NB2 O2
        generalize W.drewN nq = w2
        intro NP2 NB2 O2
        go_wp2_with fail
        refine (polyAt_nums NB2.out (by omega) zi (by omega)).mono ?_
        rintro e w3 ⟨rfl, m3, rfl⟩
        have NP3 := hide (NP2.out.mono (Old.of_drewN w2 m3))
        have NB3 := hide (NB2.out.mono (Old.of_drewN w2 m3))
        have O3 := O2.drewN m3
        clear NP2 NB2 O2
        revert NP3 NB3 O3
        generalize w2.drewN m3 = w3
        intro NP3 NB3 O3
        have CI := hide (Inv_some (evN b zi) (by omega) nb w3)
        have li := invP_lt (evN b zi)
        obtain ⟨part, hpart⟩ : ∃ part, part = invP (evN b zi) := ⟨_, rfl⟩
        rw [← hpart] at li CI
        have PART := hide hpart
        clear hpart nb
        go_wp2_with fail
        refine CI.out.mono ?_
        rintro e w' ⟨rfl, rfl⟩
        clear CI
        have lg := mulP_lt gap part
        obtain ⟨g, hg⟩ : ∃ g, g = mulP gap part := ⟨_, rfl⟩
        have CM := hide (Mul_any gap part (by omega) (by omega) w')
        rw [← hg] at CM lg
        have HG : Hid (g = mulP (subP v (evN p zi)) (invP (evN b zi))) := by show _ = _; rw [hg, GAP.out, PART.out]
        clear hg GAP PART
        go_wp2_with fail
        refine CM.out.mono ?_
        rintro e w4 ⟨rfl, rfl⟩
        clear CM
        have G1 := hide (rd_new (w := w4) (s := w4.heap.size) rfl (t := 22) (cs := #[.int .u64 (g : Nat)]) (vs := nums .u64 [g]) rfl)
        have OG := Old.of_alloc w4 (.cells #[.int .u64 (g : Nat)] 22)
        have NP4 := hide (NP3.out.mono OG)
        have NB4 := hide (NB3.out.mono OG)
        have O4 := O3.trans OG
        have NG : Hid (Nums _ (some ⟨w4.heap.size, 0, none⟩) 1 1 [g]) := ⟨rfl, Nat.le_refl _, by simp; omega, G1.out⟩
        clear NP3 NB3 O3 OG G1
        go_wp2_with fail
        refine (polyMul_any b [g] kb 1 rb _ cb 1 _ NB4.out NG.out (by omega) (by omega)).mono ?_
        rintro e w5 ⟨q, rq, kq, cq, rfl, Hq, hcq, rdq, o5⟩
        have QQ := hide Hq
        have kq66 := Hq.le
        have NQ := hide (nums_of Hq.len hcq Hq.lt rdq)
        have NP5 := hide (NP4.out.mono o5)
        have NB5 := hide (NB4.out.mono o5)
        have O5 := O4.trans o5
        clear Hq rdq NP4 NB4 O4 o5 NG
        go_wp2_with fail
        refine (polyAdd_any p q kp kq rp rq cp cq _ NP5.out NQ.out (by omega) (by omega)).mono ?_
        rintro e w6 ⟨p', rp', kp', cp', rfl, Hp', hcp', rdp', o6⟩
        have PP := hide Hp'
        have NP6 := hide (nums_of Hp'.len hcp' Hp'.lt rdp')
        have NB6 := hide (NB5.out.mono o6)
        have O6 := O5.trans o6
        clear Hp' rdp' NP5 NB5 O5 o6 NQ
        have ls := subP_lt 0 zi
        have CT := hide (Sub_any 0 zi (by omega) (by omega) w6)
        obtain ⟨t0, ht0⟩ : ∃ t0, t0 = subP 0 zi := ⟨_, rfl⟩
        rw [← ht0] at CT ls
        have HT0 := hide ht0
        clear ht0
        go_wp2_with fail
        refine CT.out.mono ?_
        rintro e w7 ⟨rfl, rfl⟩
        clear CT
        have G2 := hide (rd_new (w := w7) (s := w7.heap.size) rfl (t := 22) (cs := #[.int .u64 (t0 : Nat), .int .u64 1]) (vs := nums .u64 [t0, 1]) rfl)
        have OG := Old.of_alloc w7 (.cells #[.int .u64 (t0 : Nat), .int .u64 1] 22)
        have NP7 := hide (NP6.out.mono OG)
        have NB7 := hide (NB6.out.mono OG)
        have O7 := O6.trans OG
        have NG : Hid (Nums _ (some ⟨w7.heap.size, 0, none⟩) 2 2 [t0, 1]) := ⟨rfl, Nat.le_refl _, by simp; omega, G2.out⟩
        clear NP6 NB6 O6 OG G2
        go_wp2_with fail
        refine (polyMul_any b [t0, 1] kb 2 rb _ cb 2 _ NB7.out NG.out (by omega) (by omega)).mono ?_
        rintro e w8 ⟨b', rb', kb', cb', rfl, Hb', hcb', rdb', o8⟩
        have BB := hide Hb'
        have NB8 := hide (nums_of Hb'.len hcb' Hb'.lt rdb')
        have NP8 := hide (NP7.out.mono o8)
        have O8 := O7.trans o8
        clear Hb' rdb' NP7 NB7 O7 o8 NG
        go_wp2
        go_roundw
        case rel =>
          refine ⟨i + 1, p', b', rp', rb', kp', cp', kb', cb', by omega, by go_num, rfl, rfl, ?_, NP8, NB8, O8⟩
          have BBB := BB.out
          rw [HT0.out] at BBB
          exact N.out.step (by omega) S.out (by rw [HL.out]; exact hil) EX.out EY.out HG.out (by omega) (by omega) (by omega) QQ.out PP.out BBB
        case measure => simp [intOf]; omega
  · have C2 : Hid (errOf ps ≠ 0) := he
    have hd : (((errOf ps : Nat) : Int) != 0) = true := by rw [bne_iff_ne]; omega
    go_enter Try.func32, Try.ntmps32
    go_wp2_with fail
    refine C1.out.mono ?_
    rintro e w1 ⟨rfl, o1⟩
    go_wp2
    go_ret2
    exact ⟨o1, [], none, 0, 0, rfl, Nat.le_refl _, fun _ => rfl, fun h => absurd h he⟩

set_option maxHeartbeats 2000000 in
theorem polyZero_any : ZeroC := by
  intro ps n a cap w hp hn
  have HP := hide hp
  have C1 := hide (polyThrough_any ps n a cap w hp hn)
  clear hp
  by_cases he : errOf ps = 0
  · rw [he] at C1 ⊢
    have hl : ps.length = n := HP.out.1
    have S := hide (sound_of he)
    have n64 : n ≤ 64 := by have := S.out.le; omega
    have HL := hide hl
    have HZ : Hid (zeroOf ps n = lagN ps 0 n) := by show _ = _; unfold zeroOf; rw [if_pos he]
    clear hl
    go_enter Try.func27, Try.ntmps27
    go_wp2_with fail
    refine C1.out.mono ?_
    rintro e w1 ⟨o1, s, r, k, cr, rfl, hcr, _, hs⟩
    obtain ⟨sl, sk, slt, sti, sev, srd⟩ := hs (by trivial)
    have EV := hide (through_ev HL.out S.out (by omega) sev 0)
    have NS := hide (nums_of sl hcr slt srd)
    clear hs sl slt sti sev srd
    have CA := hide (polyAt_nums NS.out (by omega) 0 (by omega))
    go_wp2_with fail
    refine CA.out.mono ?_
    rintro e w2 ⟨rfl, m2, rfl⟩
    go_wp2
    go_ret2
    rw [HZ.out, ← EV.out]
    exact ⟨rfl, o1.drewN _⟩
  · have hd : (((errOf ps : Nat) : Int) != 0) = true := by rw [bne_iff_ne]; omega
    have HZ : Hid (zeroOf ps n = 0) := by show _ = _; unfold zeroOf; rw [if_neg he]
    go_enter Try.func27, Try.ntmps27
    go_wp2_with fail
    refine C1.out.mono ?_
    rintro e w1 ⟨o1, s, r, k, cr, rfl, hcr, hk, hs⟩
    clear hs
    go_wp2
    go_ret2
    rw [HZ.out]
    exact ⟨rfl, o1⟩

theorem polyK : PolyK := ⟨polyAt_owes, polyAdd_any, polyMul_any, polyThrough_any, polyZero_any⟩
end Go.Proofs.Ythfaahngnnfefaa
