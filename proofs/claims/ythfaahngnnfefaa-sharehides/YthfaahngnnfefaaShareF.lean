/-
  Package share: lowered.
-/
import Derived.Test.YthfaahngnnfefaaShareE
namespace Go.Proofs.Ythfaahngnnfefaa
open Go.RowKit M Pm
set_option linter.unusedVariables false

set_option maxHeartbeats 4000000 in
theorem lowered_any (secret : Nat) (ps : List Pt) (n : Nat) (a : Option Addr) (cap : Nat) (w : World) (hp : PtsOf w a n cap ps) (hs : secret < 2305843009213693951) (hS : SoundP ps) :
    Calls Try.prog 33 #[.int .u64 (secret : Nat), .slice a n cap] w fun e w' => e = .returned (.slice (some ⟨w.heap.size, 0, none⟩) n n) ∧ Row w' w.heap.size 30 (cellsP (lowL secret ps)) ∧ Old w w' := by
  have HP := hide hp
  have S := hide hS
  have HL : Hid (ps.length = n) := hp.1
  have n64 : n ≤ 64 := by have := hS.le; have := hp.1; omega
  have hmk := make_pts (P := Try.prog) (t := 24) (e := 30) Try.underlying24 (by kernel_rfl) n (by omega)
  clear hp hS
  go_enter Try.func33, Try.ntmps33
  go_wp2_with fail
  go_loopw [15] (fun vi wr => ∃ k : Nat, k ≤ n ∧ vi = .int .i64 (k : Nat) ∧ Hid (Row wr w.heap.size 30 (cellsP ((lowL secret ps).take k ++ List.replicate (ps.length - k) (0, 0)))) ∧ Old w wr) (fun vi _ => (n - intOf vi).toNat)
  case atStart => exact ⟨0, by omega, rfl, by rw [HL.out]; exact Row.new _ _ _, Old.of_alloc _ _⟩
  case round =>
    clear hmk
    obtain ⟨k, hk, rfl, R, hol⟩ := hrel
    by_cases hkn : k = n
    · subst hkn
      have hd : decide ((k : Int) < k) = false := decide_eq_false (by omega)
      go_wp2
      go_ret
      have R2 := R.out
      rw [HL.out, Nat.sub_self, List.replicate_zero, List.append_nil, List.take_of_length_le (by rw [lowL_length, HL.out]; omega)] at R2
      exact ⟨rfl, R2, hol⟩
    · have hkl : k < n := by omega
      obtain ⟨b0, off, z, v, rfl, Hp, hc1, hc2⟩ := (HP.out.mono hol).2.2.2.at (i := k) (by rw [HL.out]; exact hkl)
      have AT := hide (at_of Hp.out)
      have h0 : (0 : Int) ≤ k := by omega
      have h1 : (k : Int) < n := by omega
      have IR := S.out.inr k (by rw [HL.out]; exact hkl)
      rw [AT.out.1, AT.out.2] at IR
      obtain ⟨zi, rfl⟩ : ∃ zi : Nat, z = zi := ⟨z.toNat, by omega⟩
      obtain ⟨j1, j2, j3⟩ := IR
      have LP : Hid (lowP secret ((zi : Int), v) = ((zi : Int), mulP (subP v secret) (invP zi))) := rfl
      have nz : 1 ≤ md zi := by rw [md_of_lt (by omega)]; omega
      go_wp2_with fail
      obtain ⟨W, hW⟩ : ∃ W, W = wr.alloc (.cells #[.int .i64 (zi : Int), .int .u64 (v : Nat)] 30) := ⟨_, rfl⟩
      have cw0 : W.cell? ⟨wr.heap.size, 0, none⟩ = some (.int .i64 (zi : Int)) := by
        rw [hW]; exact (Row.new wr 30 [.int .i64 (zi : Int), .int .u64 (v : Nat)]).cell (i := 0) rfl
      have cw1 : W.cell? ⟨wr.heap.size, 1, none⟩ = some (.int .u64 (v : Nat)) := by
        rw [hW]; exact (Row.new wr 30 [.int .i64 (zi : Int), .int .u64 (v : Nat)]).cell (i := 1) rfl
      have OW : Old wr W := by rw [hW]; exact Old.of_alloc _ _
      rw [← hW]
      clear hW hc1 hc2
      have RW := hide (R.out.mono OW)
      have O1 := hol.trans OW
      clear R hol OW
      have CI := hide (Inv_some zi (by omega) nz W)
      have li := invP_lt zi
      obtain ⟨part, hpart⟩ : ∃ part, part = invP zi := ⟨_, rfl⟩
      rw [← hpart] at li CI LP
      clear hpart nz
      go_wp2_with fail
      refine CI.out.mono ?_
      rintro e w' ⟨rfl, rfl⟩
      clear CI
      have m2 := subP_lt v secret
      obtain ⟨d, hd0⟩ : ∃ d, d = subP v secret := ⟨_, rfl⟩
      have CS : Hid (∀ w, Calls Try.prog 36 #[.int .u64 (v : Nat), .int .u64 (secret : Nat)] w fun e w' => e = .returned (.int .u64 (d : Nat)) ∧ w' = w) := fun w => by rw [hd0]; exact Sub_any v secret (by omega) (by omega) w
      rw [← hd0] at LP m2
      clear hd0
      have m1 := mulP_lt d part
      obtain ⟨y, hy0⟩ : ∃ y, y = mulP d part := ⟨_, rfl⟩
      have CM : Hid (∀ w, Calls Try.prog 40 #[.int .u64 (d : Nat), .int .u64 (part : Nat)] w fun e w' => e = .returned (.int .u64 (y : Nat)) ∧ w' = w) := fun w => by rw [hy0]; exact Mul_any d part (by omega) (by omega) w
      rw [← hy0] at LP m1
      clear hy0
      have F0 : Hid (∀ w, (Instr.fieldAt 30 (.pointer (some ⟨wr.heap.size, 0, none⟩)) 0).run Try.prog w = .ok (.pointer (some ⟨wr.heap.size, 0, none⟩)) w) := fun w => by kernel_rfl
      have F1 : Hid (∀ w, (Instr.fieldAt 30 (.pointer (some ⟨wr.heap.size, 0, none⟩)) 1).run Try.prog w = .ok (.pointer (some ⟨wr.heap.size, 1, none⟩)) w) := fun w => by kernel_rfl
      have F2 : Hid (∀ w, (Instr.build 30 #[(0, .int .i64 (zi : Int)), (1, .int .u64 (y : Nat))]).run Try.prog w = .ok (.agg #[.int .i64 (zi : Int), .int .u64 (y : Nat)]) w) := fun w => by kernel_rfl
      have szP : (Try.prog.info? 30).map (·.size) = some 2 := by kernel_rfl
      have L1 : Hid (k < ((lowL secret ps).take k ++ List.replicate (ps.length - k) (0, 0)).length) := by
        show _ < _; rw [List.length_append, List.length_take, lowL_length, List.length_replicate, HL.out]; omega
      have m2 := subP_lt v secret
      go_wp2_with fail
      obtain ⟨V, hV⟩ : ∃ V, V = w'.drewN 1 := ⟨_, rfl⟩
      have RV : Hid (Row V w.heap.size 30 (cellsP ((lowL secret ps).take k ++ List.replicate (ps.length - k) (0, 0)))) := by show Row _ _ _ _; rw [hV]; exact RW.out.drewN 1
      have OV : Old w V := by rw [hV]; exact O1.drewN 1
      have cv0 : V.cell? ⟨wr.heap.size, 0, none⟩ = some (.int .i64 (zi : Int)) := by rw [hV]; exact cw0
      have cv1 : V.cell? ⟨wr.heap.size, 1, none⟩ = some (.int .u64 (v : Nat)) := by rw [hV]; exact cw1
      refine Ssa.region_put [12] [0, 1, 2, 3, 4, 5, 6, 7, 8, 9, 10, 11] [(27, .slice (some ⟨w.heap.size, 0, none⟩) n n), (28, .int .i64 (k : Nat)), (29, .pointer (some ⟨wr.heap.size, 0, none⟩)), (30, .int .i64 (zi : Int)), (31, .pointer (some ⟨wr.heap.size, 1, none⟩)), (32, .int .u64 (v : Nat)), (33, .int .u64 (secret : Nat)),
        (34, .int .u64 (d : Nat)), (35, .int .u64 (part : Nat)), (36, .int .u64 (y : Nat)), (37, .agg #[.int .i64 (zi : Int), .int .u64 (y : Nat)]), (38, .pointer (some ⟨w.heap.size, k * 2, none⟩))]
        (Ssa.stages [V, V.setCells w.heap.size (k * 2) [.int .i64 (zi : Int), .int .u64 (y : Nat)]]) (by kernel_rfl) (by kernel_rfl) (by kernel_rfl) hV.symm (fun af haf => ?asked) ?behind
      case asked =>
        have f0 : af.tmps[0]? = some (.int .u64 (secret : Nat)) := by rw [haf]; kernel_rfl
        have f5 : af.tmps[5]? = some (.slice (some ⟨w.heap.size, 0, none⟩) n n) := by rw [haf]; kernel_rfl
        have f6 : af.tmps[6]? = some (.int .i64 (k : Nat)) := by rw [haf]; kernel_rfl
        have f7 : af.tmps[7]? = some (.pointer (some ⟨wr.heap.size, 0, none⟩)) := by rw [haf]; kernel_rfl
        have f8 : af.tmps[8]? = some (.int .u64 (part : Nat)) := by rw [haf]; kernel_rfl
        have f27 : af.tmps[27]? = some (.slice (some ⟨w.heap.size, 0, none⟩) n n) := by rw [haf]; kernel_rfl
        have f28 : af.tmps[28]? = some (.int .i64 (k : Nat)) := by rw [haf]; kernel_rfl
        have f29 : af.tmps[29]? = some (.pointer (some ⟨wr.heap.size, 0, none⟩)) := by rw [haf]; kernel_rfl
        have f30 : af.tmps[30]? = some (.int .i64 (zi : Int)) := by rw [haf]; kernel_rfl
        have f31 : af.tmps[31]? = some (.pointer (some ⟨wr.heap.size, 1, none⟩)) := by rw [haf]; kernel_rfl
        have f32 : af.tmps[32]? = some (.int .u64 (v : Nat)) := by rw [haf]; kernel_rfl
        have f33 : af.tmps[33]? = some (.int .u64 (secret : Nat)) := by rw [haf]; kernel_rfl
        have f34 : af.tmps[34]? = some (.int .u64 (d : Nat)) := by rw [haf]; kernel_rfl
        have f35 : af.tmps[35]? = some (.int .u64 (part : Nat)) := by rw [haf]; kernel_rfl
        have f36 : af.tmps[36]? = some (.int .u64 (y : Nat)) := by rw [haf]; kernel_rfl
        have f37 : af.tmps[37]? = some (.agg #[.int .i64 (zi : Int), .int .u64 (y : Nat)]) := by rw [haf]; kernel_rfl
        have f38 : af.tmps[38]? = some (.pointer (some ⟨w.heap.size, k * 2, none⟩)) := by rw [haf]; kernel_rfl
        clear haf
        refine And.intro (Ssa.early_of rfl rfl (Ssa.good_of (d := 27) _ rfl f27 fun w hw => Ssa.run_mv rfl (Ssa.ev f5) w)) ?_
        refine And.intro (Ssa.early_of rfl rfl (Ssa.good_of (d := 28) _ rfl f28 fun w hw => Ssa.run_mv rfl (Ssa.ev f6) w)) ?_
        refine And.intro (Ssa.early_of rfl rfl (Ssa.good_of (d := 29) _ rfl f29 fun w hw => Ssa.run_fld rfl (Ssa.ev f7) F0.out w)) ?_
        refine And.intro (Ssa.early_of rfl rfl (Ssa.good_of (d := 30) _ rfl f30 fun w hw => Ssa.run_load 3 _ _ rfl ⟨wr.heap.size, 0, none⟩ _ (Ssa.ev f29) Try.underlying3 rfl w (by rw [show w = V from hw]; exact cv0))) ?_
        refine And.intro (Ssa.early_of rfl rfl (Ssa.good_of (d := 31) _ rfl f31 fun w hw => Ssa.run_fld rfl (Ssa.ev f7) F1.out w)) ?_
        refine And.intro (Ssa.early_of rfl rfl (Ssa.good_of (d := 32) _ rfl f32 fun w hw => Ssa.run_load 22 _ _ rfl ⟨wr.heap.size, 1, none⟩ _ (Ssa.ev f31) Try.underlying22 rfl w (by rw [show w = V from hw]; exact cv1))) ?_
        refine And.intro (Ssa.early_of rfl rfl (Ssa.good_of (d := 33) _ rfl f33 fun w hw => Ssa.run_mv rfl (Ssa.ev f0) w)) ?_
        refine And.intro (Ssa.early_of rfl rfl (Ssa.good_call (d := 34) _ 36 #[.int .u64 (v : Nat), .int .u64 (secret : Nat)] rfl f34 (fun w => by
          have h1 := Ssa.ev f32
          have h2 := Ssa.ev f33
          simp [Act.eval] at h1 h2
          simp [h1, h2, go_sem]) fun w hw => CS.out w)) ?_
        refine And.intro (Ssa.early_of rfl rfl (Ssa.good_of (d := 35) _ rfl f35 fun w hw => Ssa.run_mv rfl (Ssa.ev f8) w)) ?_
        refine And.intro (Ssa.early_of rfl rfl (Ssa.good_call (d := 36) _ 40 #[.int .u64 (d : Nat), .int .u64 (part : Nat)] rfl f36 (fun w => by
          have h1 := Ssa.ev f34
          have h2 := Ssa.ev f35
          simp [Act.eval] at h1 h2
          simp [h1, h2, go_sem]) fun w hw => CM.out w)) ?_
        refine And.intro (Ssa.early_of rfl rfl (Ssa.good_of (d := 37) _ rfl f37 fun w hw => Ssa.run_two rfl (Ssa.ev f30) (Ssa.ev f36) F2.out w)) ?_
        refine And.intro (Ssa.early_of rfl rfl (Ssa.good_of (d := 38) _ rfl f38 fun w hw => Ssa.run_addrP 24 30 _ _ rfl _ k n n (Ssa.ev f27) (Ssa.ev f28) (by omega) Try.underlying24 szP w)) ?_
        refine And.intro (Ssa.store_of 0 rfl rfl (Ssa.good_storeP 30 _ _ rfl rfl _ k (zi : Int) (y) (Ssa.ev f38) (Ssa.ev f37) szP (fun x hx => ?st) (fun x hx => congrArg (fun x => World.setCells x w.heap.size (k * 2) [.int .i64 (zi : Int), .int .u64 (y : Nat)]) hx))) ?_
        case st =>
          rw [show x = V from hx]
          exact RV.out.there L1.out
        exact trivial
      case behind =>
        rintro w2 h2
        have R2 : Hid (Row w2 w.heap.size 30 (cellsP ((lowL secret ps).take (k + 1) ++ List.replicate (ps.length - (k + 1)) (0, 0)))) := by
          show Row _ _ _ _
          rw [← low_put Hp.out, show w2 = _ from h2, LP.out]; exact RV.out.two k ((zi : Int), y)
        have O2 : Old w w2 := by
          rw [show w2 = _ from h2]; exact OV.grown (grown_two _ _ _ _ _) (Nat.le_refl _)
        clear h2 hV RV OV cv0 cv1 cw0 cw1 RW O1
        simp only [Ssa.putAll, List.foldl_cons, List.foldl_nil, List.setIfInBounds_toArray, List.set_cons_succ, List.set_cons_zero]
        go_wp2
        go_roundw
        case rel => exact ⟨k + 1, by omega, by go_num, R2, O2⟩
        case measure => simp [intOf]; omega
end Go.Proofs.Ythfaahngnnfefaa
