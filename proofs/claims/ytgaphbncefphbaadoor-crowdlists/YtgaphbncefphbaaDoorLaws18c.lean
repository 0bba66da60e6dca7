/-
  Layer 18's statement CrowdOf, if the layer's calls are what they owe.
-/
import Derived.Test.YtgaphbncefphbaaDoorLaws18
import Derived.Test.YtgaphbncefphbaaDoorCrowdD
import Derived.Test.YtgaphbncefphbaaDoorOpenPl
import Derived.Test.YtgaphbncefphbaaDoorWhole
namespace Go.Proofs.YtgaphbncefphbaaDoor
open Go.RowKit Pn Cr
set_option linter.unusedVariables false

namespace Cr
/-- Which numbers up to 64 are among these. -/
def flags (l : List Int) : List Value := (List.range 65).map fun i : Nat => .bool (l.contains (i : Int))
theorem flags_length (l : List Int) : (flags l).length = 65 := by simp [flags]
theorem flags_none : flags [] = List.replicate 65 (.bool false) := rfl
theorem flags_at (l : List Int) {i : Nat} (h : i < 65) : (flags l)[i]? = some (.bool (l.contains (i : Int))) := by simp [flags, h]
theorem flags_snoc (l : List Int) (d : Nat) : (flags l).set d (.bool true) = flags (l ++ [(d : Int)]) := by
  apply List.ext_getElem?
  intro i
  rw [List.getElem?_set]
  by_cases h : d = i
  · subst h
    rw [if_pos rfl, flags_length]
    by_cases h65 : d < 65
    · rw [if_pos h65, flags_at _ h65]
      simp
    · rw [if_neg h65, List.getElem?_eq_none (by rw [flags_length]; omega)]
  · rw [if_neg h]
    by_cases h65 : i < 65
    · rw [flags_at _ h65, flags_at _ h65]
      have : decide ((i : Int) = d) = false := decide_eq_false (by omega)
      simp [List.contains_eq_mem, List.mem_append, this]
    · rw [List.getElem?_eq_none (by rw [flags_length]; omega), List.getElem?_eq_none (by rw [flags_length]; omega)]
theorem flags_oneCell (l : List Int) : ∀ v ∈ flags l, v.oneCell' = true := by
  intro v hv
  obtain ⟨i, _, rfl⟩ := List.mem_map.1 hv
  rfl
end Cr

/-- The row of what is there, of the call's own. -/
structure FlW (w : World) (g : Nat) (l : List Int) (wr : World) : Prop where
  r : Row wr g 27 (flags l)
  old : Old w wr
  le : w.heap.size ≤ g
theorem FlW.drewN {w wr : World} {g : Nat} {l : List Int} (h : FlW w g l wr) (n : Nat) : FlW w g l (wr.drewN n) := ⟨h.r.drewN n, h.old.drewN n, h.le⟩
theorem FlW.set {w wr : World} {g : Nat} {l : List Int} (h : FlW w g l wr) (d : Nat) : FlW w g (l ++ [(d : Int)]) (wr.setCell ⟨g, d, none⟩ (.bool true)) :=
  ⟨by rw [← flags_snoc]; exact h.r.set _ _, h.old.grown (grown_set _ _ _ _) h.le, h.le⟩
theorem FlW.mono {w wr w2 : World} {g : Nat} {l : List Int} (h : FlW w g l wr) (o : Old wr w2) : FlW w g l w2 := ⟨h.r.mono o, h.old.trans o, h.le⟩
theorem FlW.at {w wr : World} {g : Nat} {l : List Int} (h : FlW w g l wr) (d : Nat) (hd : d < 65) : wr.cell? ⟨g, d, none⟩ = some (.bool (l.contains (d : Int))) := h.r.cell (flags_at l hd)

/-- What the second loop has found: nothing, or a number twice. -/
def OfSt (w : World) (g : Nat) (l : List Int) (i : Nat) (e : Int) (wr : World) : Prop := (e = 0 ∧ (l.take i).Nodup ∧ FlW w g (l.take i) wr) ∨ (e = 8 ∧ ¬ l.Nodup ∧ Old w wr)

theorem zero65 (w : World) : (zeroValue 27).run Tryd.prog w = .ok (.agg (flags []).toArray) w := by
  rw [flags_none]
  kernel_rfl

set_option maxRecDepth 100000 in
set_option maxHeartbeats 4000000 in
theorem walkK_CrowdOf (K : CrowdK) (v0 v1 : Value) (w : World) (w0 : IsSam w v0) (w1 : IsInt .i64 v1) (T : Tab w) :
    Calls Tryd.prog 3 #[v0, v1] w fun e w' => e = .returned (.bool true) ∧ Old w w' := by
  obtain ⟨a, n, cap, l, rfl, hcap, hl, hn, -, rd⟩ := w0
  obtain ⟨m, rfl, -, -⟩ := mkIc w1
  have AW := hide (fun (w' : World) (o : Old w w') => awake18 K w' (T.mono o))
  have C1 := hide (K.ofK a n cap l hl hn hcap w rd)
  have HL := hide hl
  have HN := hide hn
  have HR := hide rd
  have KK := hide K
  clear hl hn w1 T hcap rd K
  go_enter Tryd.func3, Tryd.ntmps3
  go_wp2_with fail
  refine C1.out.mono ?_
  rintro e w1 ⟨rfl, o1⟩
  have O1 := hide o1
  clear C1 o1
  have Z := zero65 w1
  have R1 : Hid (Row (w1.alloc (.cells (flags []).toArray 27)) w1.heap.size 27 (flags [])) := Row.new w1 _ _
  have O2 : Hid (Old w (w1.alloc (.cells (flags []).toArray 27))) := O1.out.trans (Old.of_alloc w1 (.cells (flags []).toArray 27))
  have F0 := hide (flags_oneCell [])
  have L0 := hide (flags_length [])
  have HI : Hid ((Tryd.prog.info? 27).map (·.size) = some 65) := by show _ = _; kernel_rfl
  have FE : Hid (∃ zs : List Value, flags [] = zs) := ⟨_, rfl⟩
  revert Z R1 O2 F0 L0
  obtain ⟨zs, hzs⟩ := FE.out
  rw [hzs]
  intro Z R1 O2 F0 L0
  have HI2 : Hid ((Tryd.prog.info? 27).map (·.size) = some zs.length) := by
    show _ = _
    rw [L0.out]
    exact HI.out
  go_wp2_with (refine wp_store_whole rfl 27 _ _ rfl w1.heap.size rfl zs rfl R1.out HI2.out rfl F0.out ?_; rintro w2 h2; have B0 : Hid (FlW w w1.heap.size (l.take 0) w2) := ⟨by rw [h2, List.take_zero, hzs]; exact R1.out.whole _, by rw [h2]; exact O2.out.grown (grown_setRow _ _ _) O1.out.size, O1.out.size⟩; clear h2)
  clear Z R1 O2 F0 L0 HI HI2 FE O1
  clear hzs
  have W0 : Hid ((0 : Int) = if fine (l.take 0) = true then 0 else 4) := rfl
  go_wp2_with fail
  go_loopw [8, 9] (fun vw vi wr => ∃ k : Nat, ∃ e : Int, k ≤ n ∧ vw = .int .i64 e ∧ vi = .int .i64 (k : Nat) ∧ Hid (e = if fine (l.take k) = true then 0 else 4) ∧ Hid (FlW w w1.heap.size (l.take 0) wr)) (fun _ vi _ => (n - intOf vi).toNat)
  case atStart => exact ⟨0, 0, by omega, rfl, rfl, W0, B0⟩
  case round =>
    clear W0 B0
    obtain ⟨k, e, hk, rfl, rfl, E, B⟩ := hrel
    by_cases hkn : k = n
    · subst hkn
      have E1 := E.out
      rw [List.take_of_length_le (by rw [HL.out]; omega)] at E1
      cases hf : fine l with
      | false =>
        rw [hf] at E1
        have EB := hide (of_bad hf)
        have e4 : e = 4 := E1
        subst e4
        have t1 := EB.out.1
        have t2 := EB.out.2
        clear E E1 hf EB
        generalize ofE l = oe at *
        generalize ofV l = ov at *
        subst t1 t2
        go_wp2_with fail
        go_loopw [8, 10] (fun vw vi wr => vw = .int .i64 4 ∧ vi = .int .i64 0 ∧ Hid (Old w wr)) (fun _ _ _ => 0)
        case atStart => exact ⟨rfl, rfl, B.out.old⟩
        case round =>
          obtain ⟨rfl, rfl, O⟩ := hrel
          by_cases h0 : k = 0
          · have d1 : decide ((0 : Int) < k) = false := decide_eq_false (by omega)
            go_wp2_with fail
            refine (AW.out _ O.out).mono ?_
            rintro e w3 ⟨rfl, o3⟩
            go_wp2
            go_ret
            exact ⟨rfl, O.out.trans o3⟩
          · have d1 : decide ((0 : Int) < k) = true := decide_eq_true (by omega)
            go_wp2_with fail
            refine (AW.out _ O.out).mono ?_
            rintro e w3 ⟨rfl, o3⟩
            go_wp2
            go_ret
            exact ⟨rfl, O.out.trans o3⟩
      | true =>
        rw [hf] at E1
        have HF := hide hf
        have e0 : e = 0 := E1
        subst e0
        have S0 : Hid (OfSt w w1.heap.size l 0 0 wr) := .inl ⟨rfl, List.nodup_nil, B.out⟩
        clear E E1 hf B
        go_wp2_with fail
        go_loopw [8, 10] (fun vw vi wr => ∃ i : Nat, ∃ e : Int, i ≤ k ∧ vw = .int .i64 e ∧ vi = .int .i64 (i : Nat) ∧ Hid (OfSt w w1.heap.size l i e wr)) (fun _ vi _ => (k - intOf vi).toNat)
        case atStart => exact ⟨0, 0, by omega, rfl, rfl, S0⟩
        case round =>
          clear S0
          obtain ⟨i, e, hi, rfl, rfl, R⟩ := hrel
          rcases R.out with ⟨rfl, hnd, B⟩ | ⟨rfl, hnd, O⟩
          · by_cases hin : i = k
            · subst hin
              rw [List.take_of_length_le (by rw [HL.out]; omega)] at hnd B
              have EB := hide (of_ok HF.out hnd)
              have B := hide B
              have hv : ofV l < 18446744073709551616 := by rw [EB.out.2]; exact setZ_lt HF.out
              have C2 := hide (KK.out.sizeK (ofV l) hv)
              rw [of_size EB.out.1, HL.out] at C2
              have C3 := hide (KK.out.hasK (ofV l) hv m)
              rw [of_has EB.out.1] at C3
              have t1 := EB.out.1
              clear R hnd EB hv KK
              generalize ofE l = oe at *
              generalize ofV l = ov at *
              subst t1
              by_cases h1 : 1 ≤ m
              · have d1 : decide (1 ≤ m) = true := decide_eq_true h1
                by_cases h2 : m ≤ 64
                · have d2 : decide (m ≤ 64) = true := decide_eq_true h2
                  obtain ⟨d, rfl⟩ : ∃ d : Nat, m = d := ⟨m.toNat, by omega⟩
                  have HA := hide (fun (w' : World) (o : Old wr w') => (B.out.mono o).at d (by omega))
                  have hd0 : (0 : Int) ≤ d := by omega
                  have hd1 : (d : Int) < 65 := by omega
                  have O := hide B.out.old
                  clear h1 h2 B
                  generalize l.contains (d : Int) = z at *
                  have hz : (z == z) = true := by simp
                  go_wp2_with fail
                  refine (AW.out _ O.out).mono ?_
                  rintro e w3 ⟨rfl, o3⟩
                  go_wp2_with fail
                  refine (C2.out _).mono ?_
                  rintro e w4 ⟨rfl, o4⟩
                  go_wp2_with fail
                  refine (C3.out _).mono ?_
                  rintro e w5 ⟨rfl, o5⟩
                  have hc := HA.out w5 ((o3.trans o4).trans o5)
                  have O5 := hide (O.out.trans ((o3.trans o4).trans o5))
                  clear o3 o4 o5 O HA
                  go_wp2
                  go_ret
                  exact ⟨by first | rfl | simp, O5.out⟩
                · have d2 : decide (m ≤ 64) = false := decide_eq_false h2
                  have hz : l.contains m = false := by
                    rw [Bool.eq_false_iff]
                    intro hc
                    have := HF.out
                    unfold fine at this
                    rw [List.all_eq_true] at this
                    have := this m (List.contains_iff_mem.1 hc)
                    simp only [Bool.and_eq_true, decide_eq_true_eq] at this
                    exact h2 this.2
                  rw [hz] at C3
                  have O := hide B.out.old
                  clear h1 h2 B hz
                  go_wp2_with fail
                  refine (AW.out _ O.out).mono ?_
                  rintro e w3 ⟨rfl, o3⟩
                  go_wp2_with fail
                  refine (C2.out _).mono ?_
                  rintro e w4 ⟨rfl, o4⟩
                  go_wp2_with fail
                  refine (C3.out _).mono ?_
                  rintro e w5 ⟨rfl, o5⟩
                  have O5 := hide (O.out.trans ((o3.trans o4).trans o5))
                  clear o3 o4 o5 O
                  go_wp2
                  go_ret
                  exact ⟨by first | rfl | simp, O5.out⟩
              · have d1 : decide (1 ≤ m) = false := decide_eq_false h1
                have hz : l.contains m = false := by
                  rw [Bool.eq_false_iff]
                  intro hc
                  have := HF.out
                  unfold fine at this
                  rw [List.all_eq_true] at this
                  have := this m (List.contains_iff_mem.1 hc)
                  simp only [Bool.and_eq_true, decide_eq_true_eq] at this
                  exact h1 this.1
                rw [hz] at C3
                have O := hide B.out.old
                clear h1 B hz
                go_wp2_with fail
                refine (AW.out _ O.out).mono ?_
                rintro e w3 ⟨rfl, o3⟩
                go_wp2_with fail
                refine (C2.out _).mono ?_
                rintro e w4 ⟨rfl, o4⟩
                go_wp2_with fail
                refine (C3.out _).mono ?_
                rintro e w5 ⟨rfl, o5⟩
                have O5 := hide (O.out.trans ((o3.trans o4).trans o5))
                clear o3 o4 o5 O
                go_wp2
                go_ret
                exact ⟨by first | rfl | simp, O5.out⟩
            · have hkl : i < k := by omega
              have lk := hide (show i < l.length by have := HL.out; omega)
              obtain ⟨b, off, rfl, hc⟩ := rd_int (HR.out.mono B.old) lk.out
              obtain ⟨d, hj, hd64⟩ : ∃ d : Nat, l.getD i 0 = (d : Int) ∧ d ≤ 64 := by
                obtain ⟨j, hj, hj64⟩ := fine_at HF.out lk.out
                exact ⟨j + 1, by omega, by omega⟩
              have hd0 : (0 : Int) ≤ d := by omega
              have hd1 : (d : Int) < 65 := by omega
              have hki : (0 : Int) ≤ i := by omega
              have hki2 : (i : Int) < k := by omega
              have hki3 : (i : Int) + 1 ≤ 9223372036854775807 := by have := HN.out; omega
              have hf1 := B.at d (by omega)
              have hf2 := B.r.free d
              have HB := hide (B.set d)
              rw [hj] at hc
              cases hb : (l.take i).contains (d : Int) with
              | true =>
                rw [hb] at hf1
                have S1 : Hid (OfSt w w1.heap.size l (i + 1) 8 (wr.setCell ⟨w1.heap.size, d, none⟩ (.bool true))) := .inr ⟨rfl, twice lk.out (by rw [hj]; exact hb), HB.out.old⟩
                clear R hnd B lk hj HB hb hd64
                go_wp2
                go_roundw
                case rel => exact ⟨i + 1, 8, by omega, rfl, by go_num, S1⟩
                case measure => simp [intOf]; omega
              | false =>
                rw [hb] at hf1
                have S1 : Hid (OfSt w w1.heap.size l (i + 1) 0 (wr.setCell ⟨w1.heap.size, d, none⟩ (.bool true))) := .inl ⟨rfl, nodup_step lk.out hnd (by rw [hj]; exact hb), by
                  have e : l.take (i + 1) = l.take i ++ [(d : Int)] := by
                    rw [List.take_add_one, List.getElem?_eq_getElem lk.out, ← hj]
                    simp [List.getD, lk.out]
                  rw [e]
                  exact HB.out⟩
                clear R hnd B lk hj HB hb hd64
                go_wp2
                go_roundw
                case rel => exact ⟨i + 1, 0, by omega, rfl, by go_num, S1⟩
                case measure => simp [intOf]; omega
          · have EB := hide (of_two HF.out hnd)
            have t1 := EB.out.1
            have t2 := EB.out.2
            have O := hide O
            clear R hnd EB
            generalize ofE l = oe at *
            generalize ofV l = ov at *
            subst t1 t2
            by_cases h0 : i < k
            · have d1 : decide ((i : Int) < k) = true := decide_eq_true (by omega)
              go_wp2_with fail
              refine (AW.out _ O.out).mono ?_
              rintro e w3 ⟨rfl, o3⟩
              go_wp2
              go_ret
              exact ⟨rfl, O.out.trans o3⟩
            · have d1 : decide ((i : Int) < k) = false := decide_eq_false (by omega)
              go_wp2_with fail
              refine (AW.out _ O.out).mono ?_
              rintro e w3 ⟨rfl, o3⟩
              go_wp2
              go_ret
              exact ⟨rfl, O.out.trans o3⟩
    · have hkl : k < n := by omega
      have lk := hide (show k < l.length by have := HL.out; omega)
      obtain ⟨b, off, rfl, hc⟩ := rd_int (HR.out.mono B.out.old) lk.out
      have hki : (0 : Int) ≤ k := by omega
      have hki2 : (k : Int) < n := by omega
      have hki3 : (k : Int) + 1 ≤ 9223372036854775807 := by have := HN.out; omega
      have ST := hide (fine_step lk.out)
      clear lk
      revert ST
      generalize l.getD k 0 = x at *
      intro ST
      by_cases x1 : x < 1
      · have d1 : decide (x < 1) = true := decide_eq_true x1
        have E1 : Hid ((4 : Int) = if fine (l.take (k + 1)) = true then 0 else 4) := by
          show _ = _
          rw [ST.out, decide_eq_false (p := 1 ≤ x) (by omega), Bool.false_and, Bool.and_false]
          rfl
        clear ST x1 E
        go_wp2_with fail
        go_roundw
        case rel => exact ⟨k + 1, 4, by omega, rfl, by go_num, E1, B⟩
        case measure => simp [intOf]; omega
      · have d1 : decide (x < 1) = false := decide_eq_false x1
        by_cases x2 : 64 < x
        · have d2 : decide (64 < x) = true := decide_eq_true x2
          have E1 : Hid ((4 : Int) = if fine (l.take (k + 1)) = true then 0 else 4) := by
            show _ = _
            rw [ST.out, decide_eq_false (p := x ≤ 64) (by omega), Bool.and_false, Bool.and_false]
            rfl
          clear ST x1 x2 E
          go_wp2_with fail
          go_roundw
          case rel => exact ⟨k + 1, 4, by omega, rfl, by go_num, E1, B⟩
          case measure => simp [intOf]; omega
        · have d2 : decide (64 < x) = false := decide_eq_false x2
          have E1 : Hid (e = if fine (l.take (k + 1)) = true then 0 else 4) := by
            show _ = _
            rw [ST.out, decide_eq_true (p := 1 ≤ x) (by omega), decide_eq_true (p := x ≤ 64) (by omega), Bool.and_true, Bool.and_true]
            exact E.out
          clear ST x1 x2 E
          go_wp2_with fail
          go_roundw
          case rel => exact ⟨k + 1, e, by omega, rfl, by go_num, E1, B⟩
          case measure => simp [intOf]; omega
end Go.Proofs.YtgaphbncefphbaaDoor
