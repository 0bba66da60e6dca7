/-
  The document's own numbers that may be below 0 (offertoryref09): Int, Signed: what they answer.
-/
import Derived.Test.YthaaajepolahfaaRefWideB
import Derived.Test.YthaaajepolahfaaRefWideE
import Derived.Test.YthaaajepolahfaaRefClamp
import Derived.Test.YthaaajepolahfaaStatsN
namespace Go.Proofs.Ythaaajepolahfaa
open Go.RowKit Pn Wd
set_option linter.unusedVariables false

theorem results_cell_tmp {P : Program} {fn : Func} {p q : Tmp} {ty : TypeId} (h : fn.results = #[.cell p ty, .tmp q]) {tmps : Array Value} {w : World} {g : Nat} {t : TypeId} {vs : List Value} {d : TypeDesc} {v : Value}
    (hp : tmps.getD p undef = .pointer (some ⟨g, 0, none⟩)) (hq : tmps.getD q undef = v) (R : Row w g t vs)
    (hu : P.underlying ty = some d) (hd : (match d with | .struct _ | .array _ _ => true | _ => false) = true) (hi : (P.info? ty).map (·.size) = some vs.length) :
    (results fn tmps).run P w = .ok (.tuple #[.agg vs.toArray, v]) w := by
  have hp' : tmps[p]?.getD undef = .pointer (some ⟨g, 0, none⟩) := by simpa using hp
  have hq' : tmps[q]?.getD undef = v := by simpa using hq
  simp [results, h, hp', hq', asAddr, run_loadVar_row w g t ty vs.toArray (0, 0) d R hu hd (by simpa using hi)]

namespace Pn
/-- The digits so far. -/
def intSt (m i : Nat) : List Nat := (List.range 8).map fun j => if 4 ≤ j ∧ j < i then 65535 else digit m j
theorem intSt_length (m i : Nat) : (intSt m i).length = 8 := by simp [intSt]
theorem intSt_four (m : Nat) : intSt m 4 = bigL m := by
  unfold intSt bigL
  apply List.map_congr_left
  intro j _
  rw [if_neg (by omega)]
theorem intSt_step (m : Nat) {i : Nat} (h4 : 4 ≤ i) (h8 : i < 8) : (intSt m i).set i 65535 = intSt m (i + 1) := by
  apply List.ext_getElem?
  intro j
  rw [List.getElem?_set, intSt_length]
  by_cases hj : j < 8
  · by_cases e : i = j
    · subst e
      rw [if_pos rfl, if_pos h8]
      simp only [intSt, List.getElem?_map, List.getElem?_range h8, Option.map_some]
      rw [if_pos (by omega)]
    · rw [if_neg e]
      simp only [intSt, List.getElem?_map, List.getElem?_range hj, Option.map_some]
      by_cases h1 : 4 ≤ j ∧ j < i
      · rw [if_pos h1, if_pos (by omega)]
      · rw [if_neg h1, if_neg (by omega)]
  · rw [List.getElem?_eq_none (by rw [intSt_length]; omega), List.getElem?_eq_none (by rw [intSt_length]; omega), if_neg (by omega)]
/-- A number's lowest 64 bits. -/
def lowN (z : Int) : Nat := (z % 18446744073709551616).toNat
theorem lowN_cast (z : Int) : ((lowN z : Nat) : Int) = z % 18446744073709551616 := Int.toNat_of_nonneg (Int.emod_nonneg _ (by decide))
theorem lowN_pos {z : Int} (h : 0 ≤ z) (hz : B64 z) : bigL (lowN z) = bigL (zN z) := by
  have h1 := lowN_cast z
  have h2 := zN_cast z
  obtain ⟨h3, h4⟩ := hz
  rw [show lowN z = zN z by omega]
theorem lowN_neg {z : Int} (h : z < 0) (hz : B64 z) : intSt (lowN z) 8 = bigL (zN z) := by
  have h1 := lowN_cast z
  have h2 := zN_cast z
  obtain ⟨h3, h4⟩ := hz
  have e : zN z = lowN z + 340282366920938463444927863358058659840 := by omega
  have hl : lowN z < 18446744073709551616 := by omega
  rw [e]
  generalize lowN z = m at hl
  have hj : ∀ j, j < 8 → (if 4 ≤ j ∧ j < 8 then 65535 else digit m j) = digit (m + 340282366920938463444927863358058659840) j := by
    intro j hj
    unfold digit
    rcases (show j = 0 ∨ j = 1 ∨ j = 2 ∨ j = 3 ∨ j = 4 ∨ j = 5 ∨ j = 6 ∨ j = 7 by omega) with rfl | rfl | rfl | rfl | rfl | rfl | rfl | rfl <;> simp <;> omega
  unfold intSt bigL
  apply List.map_congr_left
  intro j h5
  exact hj j (List.mem_range.1 h5)
end Pn

/-- Two blocks: the answer, and the digits. -/
structure RI (w : World) (g : Nat) (c : List Nat) (wr : World) : Prop where
  res : Row wr w.heap.size 45 (nums .u32 z8)
  out : Row wr g 45 (nums .u32 c)
  lt : w.heap.size < g
  old : Old w wr
theorem RI.set {w : World} {g : Nat} {c : List Nat} {wr : World} (h : RI w g c wr) (i z : Nat) : RI w g (c.set i z) (wr.setCell ⟨g, i, none⟩ (.int .u32 (z : Int))) := by
  have lt := h.lt
  exact ⟨h.res.grown (grown_set _ _ _ _) (by omega), by rw [← nums_set]; exact h.out.set i _, lt, h.old.grown (grown_set _ _ _ _) (by omega)⟩
theorem RI.end_ {w : World} {g : Nat} {c : List Nat} {wr : World} (h : RI w g c wr) (c' : List Nat) {w' : World} (hw : w' = wr.setRow w.heap.size (nums .u32 c').toArray) : Row w' w.heap.size 45 (nums .u32 c') ∧ Old w w' := by
  subst hw
  exact ⟨h.res.whole _, h.old.grown (grown_setRow _ _ _) (Nat.le_refl _)⟩

set_option maxHeartbeats 2000000 in
theorem refInt13_any (z : Int) (hz : B64 z) (w : World) :
    Calls Try.prog 29 #[.int .i64 z] w fun e w' => e = .returned (bv (zN z)) ∧ Old w w' := by
  have LP := hide (fun h : 0 ≤ z => lowN_pos h hz)
  have LN := hide (fun h : z < 0 => lowN_neg h hz)
  have E0 : IntKind.u64.wrap z = (lowN z : Nat) := (lowN_cast z).symm
  have CO : Hid (∀ wr : World, Calls Try.prog 18 #[.agg #[.int .u64 0, .int .u64 (lowN z : Nat)]] wr fun e w' => e = .returned (bv (lowN z)) ∧ Old wr w') := fun wr => by
    have := refOf9_any (lowN z) wr
    rw [show wv (lowN z) = .agg #[.int .u64 0, .int .u64 (lowN z : Nat)] by
      have h1 := lowN_cast z
      unfold wv
      rw [show Wd.hi (lowN z) = 0 by unfold Wd.hi; omega, show Wd.lo (lowN z) = lowN z by unfold Wd.lo; omega]
      rfl] at this
    exact this
  have K0 := hide (Row.new w 45 (nums .u32 z8))
  have O0 := hide (Old.of_alloc w (.cells (nums .u32 z8).toArray 45))
  revert LP LN E0 CO
  generalize lowN z = m
  intro LP LN E0 CO
  unfold bv at CO ⊢
  go_enter Try.func29, Try.ntmps29
  go_wp2_with fail
  refine (CO.out _).mono ?_
  rintro e w1 ⟨rfl, o1⟩
  have Z1 := hide (Row.new w1 45 (nums .u32 z8))
  go_wp2_with (refine wp_store_whole rfl 45 _ _ rfl w1.heap.size rfl (nums .u32 (bigL m)) rfl Z1.out (info8 (bigL_length _)) (by rw [nums_length, nums_length, bigL_length]; rfl) (nums_oneCell _ _) ?_; rintro w2 h2
               have R2 : Hid (RI w w1.heap.size (bigL m) w2) := by
                 subst h2
                 have o2 : Old w1 ((w1.alloc (.cells (nums .u32 z8).toArray 45)).setRow w1.heap.size (nums .u32 (bigL m)).toArray) := (Old.of_alloc w1 _).grown (grown_setRow _ _ _) (Nat.le_refl _)
                 exact ⟨(K0.out.mono o1).mono o2, Z1.out.whole _, (K0.out.mono o1).lt, (O0.out.trans o1).trans o2⟩
               clear h2)
  clear Z1 K0 O0 o1
  revert R2
  generalize w1.heap.size = g
  intro R2
  by_cases hn : z < 0
  · have t1 : decide (z < 0) = true := decide_eq_true hn
    have L8 := hide (LN.out hn)
    clear LP LN hn CO E0
    go_loopw [4] (fun vi wr => ∃ i : Nat, 4 ≤ i ∧ i ≤ 8 ∧ vi = .int .i64 (i : Nat) ∧ Hid (RI w g (intSt m i) wr)) (fun vi _ => (8 - intOf vi).toNat)
    case atStart => exact ⟨4, by omega, by omega, rfl, by show RI _ _ _ _; rw [intSt_four]; exact R2.out⟩
    case round =>
      clear R2
      obtain ⟨i, h4, h8, rfl, R⟩ := hrel
      by_cases hi8 : i = 8
      · subst hi8
        rw [show ((8 : Nat) : Int) = 8 from rfl]
        rw [L8.out] at R
        go_wp2_with (first
          | refine wp_load_whole rfl 45 _ rfl g rfl R.out.out Try.underlying45 rfl (info8 (bigL_length _)) ?_
          | (refine wp_store_whole rfl 45 _ _ rfl w.heap.size rfl (nums .u32 (bigL (zN z))) rfl R.out.res (info8 (bigL_length _)) (by rw [nums_length, nums_length, bigL_length]; rfl) (nums_oneCell _ _) ?_; rintro w9 h9
             have E9 := R.out.end_ _ h9
             clear h9))
        exact bodyPost_ret (v := .agg (nums .u32 (bigL (zN z))).toArray) (results_whole rfl rfl E9.1 Try.underlying45 rfl (info8 (bigL_length _))) rfl ⟨rfl, E9.2⟩
      · have hil : i < 8 := by omega
        have i0 : (0 : Int) ≤ i := by omega
        have i1 : (i : Int) < 8 := by omega
        have d0 : decide ((i : Int) < 8) = true := decide_eq_true i1
        obtain ⟨y, _, c1⟩ := R.out.out.num (i := i) (by rw [intSt_length]; exact hil)
        have f1 := R.out.out.free i
        have S3 := hide (intSt_step m h4 hil)
        go_wp2
        go_roundw
        case rel =>
          refine ⟨i + 1, by omega, by omega, by go_num, ?_⟩
          show RI _ _ _ _
          rw [← S3.out]
          exact R.out.set i 65535
        case measure => simp [intOf]; omega
  · have t1 : decide (z < 0) = false := decide_eq_false hn
    have L8 := hide (LP.out (by omega))
    rw [L8.out] at R2
    clear LP LN hn CO E0
    go_loopw [4] (fun vi wr => vi = .int .i64 4 ∧ Hid (RI w g (bigL (zN z)) wr)) (fun _ _ => 0)
    case atStart => exact ⟨rfl, R2⟩
    case round =>
      clear R2
      obtain ⟨rfl, R⟩ := hrel
      go_wp2_with (first
        | refine wp_load_whole rfl 45 _ rfl g rfl R.out.out Try.underlying45 rfl (info8 (bigL_length _)) ?_
        | (refine wp_store_whole rfl 45 _ _ rfl w.heap.size rfl (nums .u32 (bigL (zN z))) rfl R.out.res (info8 (bigL_length _)) (by rw [nums_length, nums_length, bigL_length]; rfl) (nums_oneCell _ _) ?_; rintro w9 h9
           have E9 := R.out.end_ _ h9
           clear h9))
      exact bodyPost_ret (v := .agg (nums .u32 (bigL (zN z))).toArray) (results_whole rfl rfl E9.1 Try.underlying45 rfl (info8 (bigL_length _))) rfl ⟨rfl, E9.2⟩

theorem bv_lit (x : Nat) : bv x = .agg #[.int .u32 (digit x 0 : Nat), .int .u32 (digit x 1 : Nat), .int .u32 (digit x 2 : Nat), .int .u32 (digit x 3 : Nat), .int .u32 (digit x 4 : Nat), .int .u32 (digit x 5 : Nat), .int .u32 (digit x 6 : Nat), .int .u32 (digit x 7 : Nat)] := rfl

set_option maxHeartbeats 2000000 in
theorem refSigned13_any (z : Int) (h0 : -170141183460469231731687303715884105728 ≤ z) (h1 : z < 170141183460469231731687303715884105728) (w : World) :
    Calls Try.prog 32 #[bv (zN z)] w fun e w' => e = .returned (.tuple #[bv z.natAbs, .bool (decide (z < 0))]) ∧ Old w w' := by
  have K0 := hide (R2.start w (bigL (zN z)))
  have ST := sign_top h0 h1
  by_cases hn : z < 0
  · have hm := zN_neg hn h0
    have C1 : Hid (∀ w, Calls Try.prog 44 #[bv (zN z)] w fun e w' => e = .returned (.agg (nums .u32 (bigL z.natAbs)).toArray) ∧ Old w w') := fun w => by
      have := refNeg9_any (zN z) hm.2 w
      rw [hm.1] at this
      exact this
    have t0 : decide (z < 0) = true := decide_eq_true hn
    rw [t0]
    have t1 : decide ((32768 : Int) ≤ (digit (zN z) 7 : Nat)) = true := by have := ST.2 hn; simp; omega
    rw [bv_lit (zN z)] at C1 ⊢
    clear hn ST hm t0 h0 h1
    go_enter Try.func32, Try.ntmps32
    go_wp2_with fail
    refine (C1.out _).mono ?_
    rintro e w1 ⟨rfl, o1⟩
    have R1 : Hid (R2 w (bigL (zN z)) z8 w1) := K0.out.mono o1
    clear K0 o1
    go_wp2_with (first
      | (refine wp_store_whole rfl 45 _ _ rfl (w.heap.size + 1) rfl (nums .u32 (bigL z.natAbs)) rfl R1.out.b (info8 (bigL_length _)) (by rw [nums_length, nums_length, bigL_length]; rfl) (nums_oneCell _ _) ?_; rintro w9 h9
         have E9 := R1.out.end_ _ h9
         clear h9))
    exact bodyPost_ret (v := .tuple #[.agg (nums .u32 (bigL z.natAbs)).toArray, .bool true]) (results_cell_tmp rfl rfl rfl E9.1 Try.underlying45 rfl (info8 (bigL_length _))) rfl ⟨rfl, E9.2⟩
  · have hm := zN_pos (by omega) h1
    have t0 : decide (z < 0) = false := decide_eq_false hn
    rw [t0]
    have t1 : decide ((32768 : Int) ≤ (digit (zN z) 7 : Nat)) = false := by
      have : ¬ 32768 ≤ digit (zN z) 7 := fun h => hn (ST.1 h)
      simp; omega
    rw [← hm, bv_lit (zN z)]
    clear hn ST hm t0 h0 h1
    go_enter Try.func32, Try.ntmps32
    go_wp2_with (first
      | (refine wp_store_whole rfl 45 _ _ rfl (w.heap.size + 1) rfl (nums .u32 (bigL (zN z))) rfl K0.out.b (info8 (bigL_length _)) (by rw [nums_length, nums_length, bigL_length]; rfl) (nums_oneCell _ _) ?_; rintro w9 h9
         have E9 := K0.out.end_ _ h9
         clear h9))
    exact bodyPost_ret (v := .tuple #[.agg (nums .u32 (bigL (zN z))).toArray, .bool false]) (results_cell_tmp rfl rfl rfl E9.1 Try.underlying45 rfl (info8 (bigL_length _))) rfl ⟨rfl, E9.2⟩
end Go.Proofs.Ythaaajepolahfaa
