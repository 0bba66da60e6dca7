/-
  poly.Mul: a product, each number by each.
-/
import Derived.Test.YthfaahngnnfefaaPolyAdd
import Derived.Test.YthfaahngnnfefaaSsaOps
namespace Go.Proofs.Ythfaahngnnfefaa
open Go.RowKit M Pm
set_option linter.unusedVariables false

namespace Ssa
section
variable {P : Program} {o : Oper}
/-- A cell's address in a slice of a block that begins at its first cell. -/
theorem run_addrS {ρ : Operand → Value} (ty e : TypeId) (x y : Operand) (ho : o.op = .indexAddr ty x y) (g k n cap : Nat) (hx : ρ x = .slice (some ⟨g, 0, none⟩) n cap) (hy : ρ y = .int .i64 (k : Int)) (hk : k < n)
    (hu : P.underlying ty = some (.slice e)) (hi : (P.info? e).map (·.size) = some 1) (w : World) : (execOp ρ o).run P w = .ok (.value (.pointer (some ⟨g, k, none⟩))) w := by
  unfold execOp
  cases hq : P.info? e with
  | none => simp [hq] at hi
  | some i =>
    have hsz : i.size = 1 := by simpa [hq] using hi
    have hk0 : (0 : Int) ≤ k := by omega
    have hk1 : (k : Int) < n := by omega
    simp only [ho, hx, hy]
    simp [hu, sizeOf, typeInfo, hq, hsz, hk0, hk1, go_sem]
theorem run_addi {ρ : Operand → Value} {ty u : TypeId} {x y : Operand} (ho : o.op = .binOp .add ty x y u) {i k : Nat} (hx : ρ x = .int .i64 (i : Int)) (hy : ρ y = .int .i64 (k : Int)) (hb : i + k < 9223372036854775808) (w : World) :
    (execOp ρ o).run P w = .ok (.value (.int .i64 ((i + k : Nat) : Int))) w := by
  unfold execOp
  simp only [ho, hx, hy]
  have : IntKind.i64.wrap ((i : Int) + k) = ((i + k : Nat) : Int) := by rw [IntKind.wrap_i64]; omega
  simp [go_sem, this]
end
end Ssa

theorem cut_rd {w : World} {a : Option Addr} {xs : List Nat} (h : Rd w a (nums .u64 xs)) : Rd w a (nums .u64 (cutN xs)) := rd_take64 h _

set_option maxHeartbeats 4000000 in
theorem polyMul_any : MulC := by
  intro xs ys n m a b ca cb w hX hY hn hm
  obtain ⟨lx, cx, bx, rx⟩ := hX
  obtain ⟨ly, cy, by_, ry⟩ := hY
  have C1 := hide (trimmed_any xs n a ca w lx (by omega) cx bx rx)
  have C2 := hide (trimmed_any ys m b cb w ly (by omega) cy by_ ry)
  have hp := lastK_le xs n
  have hq := lastK_le ys m
  have LX : Hid ((cutN xs).length = lastK xs n) := by show _ = _; rw [cutN_length, lx]
  have LY : Hid ((cutN ys).length = lastK ys m) := by show _ = _; rw [cutN_length, ly]
  have BX : Hid (∀ y ∈ cutN xs, y < 18446744073709551616) := fun y hy => bx y (cutN_mem hy)
  have BY : Hid (∀ y ∈ cutN ys, y < 18446744073709551616) := fun y hy => by_ y (cutN_mem hy)
  have TX := hide (cutN_tight xs)
  have TY := hide (cutN_tight ys)
  have EX : Hid (∀ x, ev ((cutN xs).map F) x = ev (xs.map F) x) := cutN_ev xs
  have EY : Hid (∀ x, ev ((cutN ys).map F) x = ev (ys.map F) x) := cutN_ev ys
  replace rx := cut_rd rx
  replace ry := cut_rd ry
  clear lx ly bx by_ cx cy
  revert C1 C2 hp hq LX LY BX BY TX TY EX EY rx ry
  generalize lastK xs n = p
  generalize lastK ys m = q
  generalize cutN xs = X
  generalize cutN ys = Y
  intro C1 C2 hp hq LX LY BX BY TX TY EX EY rx ry
  by_cases h0 : p = 0 ∨ q = 0
  · have hv : Hid (∀ x, ev (([] : List Nat).map F) x = ev (xs.map F) x * ev (ys.map F) x) := by
      intro x
      rw [← EX.out, ← EY.out]
      rcases h0 with h0 | h0
      · rw [List.eq_nil_of_length_eq_zero (LX.out.trans h0)]
        simp only [List.map_nil, ev]; grind
      · rw [List.eq_nil_of_length_eq_zero (LY.out.trans h0)]
        simp only [List.map_nil, ev]; grind
    have hend : Hid (PolyOf [] 0 (n + m) (fun x => ev (xs.map F) x * ev (ys.map F) x)) := ⟨rfl, by omega, by simp, by intro c hc; simp at hc, hv.out⟩
    by_cases hp0 : p = 0
    · subst hp0
      go_enter Try.func39, Try.ntmps39
      go_wp2_with fail
      refine C1.out.mono ?_
      rintro e w' ⟨rfl, rfl⟩
      go_wp2_with fail
      refine C2.out.mono ?_
      rintro e w' ⟨rfl, rfl⟩
      go_wp2
      go_ret
      exact ⟨[], none, 0, 0, rfl, hend.out, by omega, Rd.nil _, Old.refl _⟩
    · have hq0 : q = 0 := by omega
      subst hq0
      have hd : ((p : Int) == 0) = false := by rw [beq_eq_false_iff_ne]; omega
      go_enter Try.func39, Try.ntmps39
      go_wp2_with fail
      refine C1.out.mono ?_
      rintro e w' ⟨rfl, rfl⟩
      go_wp2_with fail
      refine C2.out.mono ?_
      rintro e w' ⟨rfl, rfl⟩
      go_wp2
      go_ret
      exact ⟨[], none, 0, 0, rfl, hend.out, by omega, Rd.nil _, Old.refl _⟩
  · have hp1 : 1 ≤ p := by omega
    have hq1 : 1 ≤ q := by omega
    obtain ⟨L, hL⟩ : ∃ L, L + 1 = p + q := ⟨p + q - 1, by omega⟩
    have eL : ((p : Int) + q - 1) = (L : Int) := by omega
    have hmk0 := make_nums (P := Try.prog) (t := 23) (e := 22) (k := .u64) (B := 8) Try.underlying23 (by kernel_rfl) L (by omega) (by omega)
    have hmk := hmk0
    rw [← eL] at hmk
    have d1 : ((p : Int) == 0) = false := by rw [beq_eq_false_iff_ne]; omega
    have d2 : ((q : Int) == 0) = false := by rw [beq_eq_false_iff_ne]; omega
    go_enter Try.func39, Try.ntmps39
    go_wp2_with fail
    refine C1.out.mono ?_
    rintro e w' ⟨rfl, rfl⟩
    go_wp2_with fail
    refine C2.out.mono ?_
    rintro e w' ⟨rfl, rfl⟩
    clear C1 C2
    go_wp2_with fail
    go_loopw [31] (fun vi wr => ∃ (i : Nat) (s : List Nat), i ≤ p ∧ vi = .int .i64 (i : Nat) ∧ Row wr w'.heap.size 22 (nums .u64 s) ∧ Old w' wr ∧ Hid (s.length = L ∧ (∀ y ∈ s, y < 2305843009213693951) ∧ ∀ x, ev (s.map F) x = ev ((X.take i).map F) x * ev (Y.map F) x)) (fun vi _ => (p - intOf vi).toNat)
    case atStart =>
      refine ⟨0, List.replicate L 0, by omega, rfl, ?_, Old.of_alloc _ _, List.length_replicate, fun y hy => by rw [List.eq_of_mem_replicate hy]; omega, fun x => ?_⟩
      · exact Row.new _ _ _
      · rw [ev_zeros]; simp only [List.take_zero, List.map_nil, ev]; grind
    case round =>
      clear hmk hmk0
      obtain ⟨i, s, hi, rfl, R, hol, H⟩ := hrel
      by_cases hip : i = p
      · subst hip
        have hd : decide ((i : Int) < i) = false := decide_eq_false (by omega)
        go_wp2
        go_ret
        have hs : ∀ x, ev (s.map F) x = ev (X.map F) x * ev (Y.map F) x := fun x => by
          rw [H.out.2.2, List.take_of_length_le (by rw [LX.out]; omega)]
        refine ⟨s, _, L, L, rfl, ⟨H.out.1, by omega, H.out.2.1, ?_, fun x => by rw [hs, EX.out, EY.out]⟩, Nat.le_refl _, R.rd, hol⟩
        refine tight_mul (n := i + q) (by omega) ?_ ?_ TX.out TY.out ?_ ?_ hs
        · intro e
          have := congrArg List.length e
          rw [List.length_map, LX.out, List.length_nil] at this; omega
        · intro e
          have := congrArg List.length e
          rw [List.length_map, LY.out, List.length_nil] at this; omega
        · rw [List.length_map, List.length_map, List.length_map, H.out.1, LX.out, LY.out]; omega
        · rw [List.length_map, List.length_map, LX.out, LY.out]; omega
      · have hil : i < p := by omega
        obtain ⟨b1, o1, c, rfl, Hc, hcc⟩ := (rx.mono hol).num (i := i) (by rw [LX.out]; exact hil)
        have lc := BX.out c (List.mem_of_getElem? Hc.out)
        have i0 : (0 : Int) ≤ i := by omega
        have i1 : (i : Int) < p := by omega
        have TK : Hid (∀ x, ev ((X.take (i + 1)).map F) x = ev ((X.take i).map F) x + x ^ i * F c) := fun x => ev_take_step x Hc.out
        go_wp2_with fail
        go_loopw [38] (fun vk wr' => ∃ (k : Nat) (s : List Nat), k ≤ q ∧ vk = .int .i64 (k : Nat) ∧ Row wr' w'.heap.size 22 (nums .u64 s) ∧ Old w' wr' ∧ Hid (s.length = L ∧ (∀ y ∈ s, y < 2305843009213693951) ∧ ∀ x, ev (s.map F) x = ev ((X.take i).map F) x * ev (Y.map F) x + x ^ i * F c * ev ((Y.take k).map F) x)) (fun vk _ => (q - intOf vk).toNat)
        case atStart => exact ⟨0, s, by omega, rfl, R, hol, H.out.1, H.out.2.1, fun x => by rw [H.out.2.2]; simp only [List.take_zero, List.map_nil, ev]; grind⟩
        case round =>
          clear R hol H hcc
          obtain ⟨k, s, hk, rfl, R, hol, H⟩ := hrel
          by_cases hkq : k = q
          · subst hkq
            have hd2 : decide ((k : Int) < k) = false := decide_eq_false (by omega)
            go_wp2
            go_roundw
            case rel =>
              refine ⟨i + 1, s, by omega, by go_num, R, hol, H.out.1, H.out.2.1, fun x => ?_⟩
              rw [H.out.2.2, TK.out, show Y.take k = Y from List.take_of_length_le (by rw [LY.out]; omega)]
              generalize ev (Y.map F) x = u
              generalize ev ((X.take i).map F) x = v
              clear H TK
              grind
            case measure => simp [intOf]; omega
          · have hkl : k < q := by omega
            obtain ⟨b2, o2, y, rfl, Hy, hcy⟩ := (ry.mono hol).num (i := k) (by rw [LY.out]; exact hkl)
            have ly := BY.out y (List.mem_of_getElem? Hy.out)
            have k0 : (0 : Int) ≤ k := by omega
            have k1 : (k : Int) < q := by omega
            obtain ⟨z, Hz, hcz⟩ := R.num (i := i + k) (by rw [H.out.1]; omega)
            have lz := H.out.2.1 z (List.mem_of_getElem? Hz.out)
            have szU : (Try.prog.info? 22).map (·.size) = some 1 := by kernel_rfl
            go_wp2_with fail
            obtain ⟨V, hV⟩ : ∃ V, V = wr.drewN 1 := ⟨_, rfl⟩
            have RV : Row V w'.heap.size 22 (nums .u64 s) := by rw [hV]; exact R.drewN 1
            have OV : Old w' V := by rw [hV]; exact hol.drewN 1
            have m1 := mulP_lt c y
            refine Ssa.region_put [15] [0, 1, 2, 3, 4, 5, 6, 7, 8, 9, 10, 11, 12, 13, 14] [(43, .slice (some ⟨w'.heap.size, 0, none⟩) L L), (44, .int .i64 (i : Nat)), (45, .int .i64 (k : Nat)), (46, .int .i64 (i + k : Nat)), (47, .slice (some ⟨w'.heap.size, 0, none⟩) L L), (48, .int .i64 (i : Nat)), (49, .int .i64 (k : Nat)), (50, .int .i64 (i + k : Nat)),
              (51, .pointer (some ⟨w'.heap.size, i + k, none⟩)), (52, .int .u64 (z : Nat)), (53, .int .u64 (c : Nat)), (54, .int .u64 (y : Nat)), (55, .int .u64 (mulP c y : Nat)), (56, .int .u64 (addP z (mulP c y) : Nat)), (57, .pointer (some ⟨w'.heap.size, i + k, none⟩))]
              (Ssa.stages [V, V.setCell ⟨w'.heap.size, i + k, none⟩ (.int .u64 (addP z (mulP c y) : Nat))]) (by kernel_rfl) (by kernel_rfl) (by kernel_rfl) hV.symm (fun af haf => ?asked) ?behind
            case asked =>
              have f5 : af.tmps[5]? = some (.slice (some ⟨w'.heap.size, 0, none⟩) L L) := by rw [haf]; kernel_rfl
              have f6 : af.tmps[6]? = some (.int .i64 (i : Nat)) := by rw [haf]; kernel_rfl
              have f7 : af.tmps[7]? = some (.int .u64 (c : Nat)) := by rw [haf]; kernel_rfl
              have f8 : af.tmps[8]? = some (.int .i64 (k : Nat)) := by rw [haf]; kernel_rfl
              have f9 : af.tmps[9]? = some (.int .u64 (y : Nat)) := by rw [haf]; kernel_rfl
              have f43 : af.tmps[43]? = some (.slice (some ⟨w'.heap.size, 0, none⟩) L L) := by rw [haf]; kernel_rfl
              have f44 : af.tmps[44]? = some (.int .i64 (i : Nat)) := by rw [haf]; kernel_rfl
              have f45 : af.tmps[45]? = some (.int .i64 (k : Nat)) := by rw [haf]; kernel_rfl
              have f46 : af.tmps[46]? = some (.int .i64 (i + k : Nat)) := by rw [haf]; kernel_rfl
              have f47 : af.tmps[47]? = some (.slice (some ⟨w'.heap.size, 0, none⟩) L L) := by rw [haf]; kernel_rfl
              have f48 : af.tmps[48]? = some (.int .i64 (i : Nat)) := by rw [haf]; kernel_rfl
              have f49 : af.tmps[49]? = some (.int .i64 (k : Nat)) := by rw [haf]; kernel_rfl
              have f50 : af.tmps[50]? = some (.int .i64 (i + k : Nat)) := by rw [haf]; kernel_rfl
              have f51 : af.tmps[51]? = some (.pointer (some ⟨w'.heap.size, i + k, none⟩)) := by rw [haf]; kernel_rfl
              have f52 : af.tmps[52]? = some (.int .u64 (z : Nat)) := by rw [haf]; kernel_rfl
              have f53 : af.tmps[53]? = some (.int .u64 (c : Nat)) := by rw [haf]; kernel_rfl
              have f54 : af.tmps[54]? = some (.int .u64 (y : Nat)) := by rw [haf]; kernel_rfl
              have f55 : af.tmps[55]? = some (.int .u64 (mulP c y : Nat)) := by rw [haf]; kernel_rfl
              have f56 : af.tmps[56]? = some (.int .u64 (addP z (mulP c y) : Nat)) := by rw [haf]; kernel_rfl
              have f57 : af.tmps[57]? = some (.pointer (some ⟨w'.heap.size, i + k, none⟩)) := by rw [haf]; kernel_rfl
              clear haf
              refine And.intro (Ssa.early_of rfl rfl (Ssa.good_of (d := 43) _ rfl f43 fun w hw => Ssa.run_mv rfl (Ssa.ev f5) w)) ?_
              refine And.intro (Ssa.early_of rfl rfl (Ssa.good_of (d := 44) _ rfl f44 fun w hw => Ssa.run_mv rfl (Ssa.ev f6) w)) ?_
              refine And.intro (Ssa.early_of rfl rfl (Ssa.good_of (d := 45) _ rfl f45 fun w hw => Ssa.run_mv rfl (Ssa.ev f8) w)) ?_
              refine And.intro (Ssa.early_of rfl rfl (Ssa.good_of (d := 46) _ rfl f46 fun w hw => Ssa.run_addi rfl (Ssa.ev f44) (Ssa.ev f45) (by omega) w)) ?_
              refine And.intro (Ssa.early_of rfl rfl (Ssa.good_of (d := 47) _ rfl f47 fun w hw => Ssa.run_mv rfl (Ssa.ev f5) w)) ?_
              refine And.intro (Ssa.early_of rfl rfl (Ssa.good_of (d := 48) _ rfl f48 fun w hw => Ssa.run_mv rfl (Ssa.ev f6) w)) ?_
              refine And.intro (Ssa.early_of rfl rfl (Ssa.good_of (d := 49) _ rfl f49 fun w hw => Ssa.run_mv rfl (Ssa.ev f8) w)) ?_
              refine And.intro (Ssa.early_of rfl rfl (Ssa.good_of (d := 50) _ rfl f50 fun w hw => Ssa.run_addi rfl (Ssa.ev f48) (Ssa.ev f49) (by omega) w)) ?_
              refine And.intro (Ssa.early_of rfl rfl (Ssa.good_of (d := 51) _ rfl f51 fun w hw => Ssa.run_addrS 23 22 _ _ rfl _ (i + k) L L (Ssa.ev f47) (Ssa.ev f50) (by omega) Try.underlying23 szU w)) ?_
              refine And.intro (Ssa.early_of rfl rfl (Ssa.good_of (d := 52) _ rfl f52 fun w hw => Ssa.run_load 22 _ _ rfl ⟨w'.heap.size, i + k, none⟩ _ (Ssa.ev f51) Try.underlying22 rfl w (by rw [show w = V from hw, hV]; exact hcz))) ?_
              refine And.intro (Ssa.early_of rfl rfl (Ssa.good_of (d := 53) _ rfl f53 fun w hw => Ssa.run_mv rfl (Ssa.ev f7) w)) ?_
              refine And.intro (Ssa.early_of rfl rfl (Ssa.good_of (d := 54) _ rfl f54 fun w hw => Ssa.run_mv rfl (Ssa.ev f9) w)) ?_
              refine And.intro (Ssa.early_of rfl rfl (Ssa.good_call (d := 55) _ 40 #[.int .u64 (c : Nat), .int .u64 (y : Nat)] rfl f55 (fun w => by
                have h1 := Ssa.ev f53
                have h2 := Ssa.ev f54
                simp [Act.eval] at h1 h2
                simp [h1, h2, go_sem]) fun w hw => Mul_any c y lc ly w)) ?_
              refine And.intro (Ssa.early_of rfl rfl (Ssa.good_call (d := 56) _ 41 #[.int .u64 (z : Nat), .int .u64 (mulP c y : Nat)] rfl f56 (fun w => by
                have h1 := Ssa.ev f52
                have h2 := Ssa.ev f55
                simp [Act.eval] at h1 h2
                simp [h1, h2, go_sem]) fun w hw => Add_any z (mulP c y) (by omega) (by omega) w)) ?_
              refine And.intro (Ssa.early_of rfl rfl (Ssa.good_of (d := 57) _ rfl f57 fun w hw => Ssa.run_addrS 23 22 _ _ rfl _ (i + k) L L (Ssa.ev f43) (Ssa.ev f46) (by omega) Try.underlying23 szU w)) ?_
              refine And.intro (Ssa.store_of 0 rfl rfl (Ssa.good_store 22 _ _ rfl rfl ⟨w'.heap.size, i + k, none⟩ .u64 (addP z (mulP c y) : Nat) (.int .u64 (z : Nat)) (Ssa.ev f57) (Ssa.ev f56) szU (fun w hw => ?st) (fun w hw => congrArg (fun w => World.setCell w ⟨w'.heap.size, i + k, none⟩ (.int .u64 (addP z (mulP c y) : Nat))) hw))) ?_
              case st =>
                rw [show w = V from hw]
                refine ⟨?_, RV.free _⟩
                rw [hV]; exact hcz
              exact trivial
            case behind =>
              rintro w2 h2
              have R2 : Row w2 w'.heap.size 22 (nums .u64 (s.set (i + k) (addP z (mulP c y)))) := by
                rw [show w2 = _ from h2, ← nums_set]; exact RV.set _ _
              have O2 : Old w' w2 := by
                rw [show w2 = _ from h2]; exact OV.grown (grown_set _ _ _ _) (Nat.le_refl _)
              clear h2 hV RV OV R hol hcz hcy
              simp only [Ssa.putAll, List.foldl_cons, List.foldl_nil, List.setIfInBounds_toArray, List.set_cons_succ, List.set_cons_zero]
              go_wp2
              go_roundw
              case rel =>
                refine ⟨k + 1, s.set (i + k) (addP z (mulP c y)), by omega, by go_num, R2, O2, ?_, set_lt H.out.2.1 (addP_lt _ _), fun x => ?_⟩
                · rw [List.length_set]; exact H.out.1
                · rw [map_set_F, ev_set _ _ _ _ (by rw [List.length_map, H.out.1]; omega), co_map_F Hz.out, F_addP, F_mulP, H.out.2.2, ev_take_step x Hy.out]
                  have hpow : x ^ (i + k) = x ^ i * x ^ k := by grind
                  rw [hpow]
                  grind
              case measure => simp [intOf]; omega
end Go.Proofs.Ythfaahngnnfefaa
