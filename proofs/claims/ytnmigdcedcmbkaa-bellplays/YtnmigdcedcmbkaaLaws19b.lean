/-
  Layer 19's statement BellAll, if the layer's calls are what they owe.
-/
import Derived.Test.YtnmigdcedcmbkaaLaws19
import Derived.Laws.OwnMore
namespace Go.Proofs.Ytnmigdcedcmbkaa
open Go.RowKit Bl Pn
set_option linter.unusedVariables false

namespace Bl
/-- Those that the first loop sets. -/
def marks (xs : List Nat) (i : Nat) : List Mk := (List.range i).map fun j : Nat => ((j : Int), ((xs.getD j 0 : Nat) : Int))
theorem marks_length (xs : List Nat) (i : Nat) : (marks xs i).length = i := by simp [marks]
theorem marks_has (xs : List Nat) (i j : Nat) : hasL (marks xs i) (j : Int) = decide (j < i) := by
  rw [Bool.eq_iff_iff, hasL_iff, decide_eq_true_eq]
  constructor
  · rintro ⟨x, hx, e⟩
    obtain ⟨k, hk, rfl⟩ := List.mem_map.1 hx
    have := List.mem_range.1 hk
    simp only at e
    omega
  · intro h
    exact ⟨((j : Int), ((xs.getD j 0 : Nat) : Int)), List.mem_map.2 ⟨j, List.mem_range.2 h, rfl⟩, rfl⟩
theorem marks_next (xs : List Nat) (i : Nat) : setL (marks xs i) (i : Int) ((xs.getD i 0 : Nat) : Int) = marks xs (i + 1) := by
  unfold setL
  rw [marks_has, decide_eq_false (by omega), if_neg (by simp)]
  unfold marks
  rw [List.range_succ, List.map_append]
  rfl
theorem marks_one (xs : List Nat) (i : Nat) : One1 (marks xs i) := by
  unfold One1 marks
  rw [List.map_map]
  unfold List.Nodup
  rw [List.pairwise_map]
  refine List.Pairwise.imp (fun h e => h ?_) List.nodup_range
  simp only [Function.comp] at e
  omega
theorem stop_length {l : List Mk} (h : One1 l) {m : Mk} (hm : m ∈ l) : (stopL l m.1).length + 1 = l.length := by
  rcases plc_cases l h m.1 with ⟨_, h2⟩ | ⟨j, h1, _, _, _, h5, _⟩
  · rw [hasL_iff.2 ⟨m, hm, rfl⟩] at h2
    cases h2
  · rw [h5, List.length_append, List.length_take, List.length_drop]
    omega
theorem has_stop (l : List Mk) (d : Int) (j : Int) : hasL (stopL l d) j = (decide (j ≠ d) && hasL l j) := by
  rw [Bool.eq_iff_iff, Bool.and_eq_true, hasL_iff, hasL_iff, decide_eq_true_eq]
  constructor
  · rintro ⟨x, hx, rfl⟩
    have := mem_stopL.1 hx
    exact ⟨this.2, x, this.1, rfl⟩
  · rintro ⟨h1, x, hx, rfl⟩
    exact ⟨x, mem_stopL.2 ⟨hx, h1⟩, rfl⟩
/-- Who has been heard. -/
def seenV (l : List Mk) (n : Nat) : List Value := (List.range n).map fun j : Nat => .bool (!hasL l (j : Int))
theorem seenV_length (l : List Mk) (n : Nat) : (seenV l n).length = n := by simp [seenV]
theorem seenV_none (xs : List Nat) (n : Nat) : seenV (marks xs n) n = List.replicate n (.bool false) := by
  apply List.ext_getElem
  · simp [seenV]
  · intro i h1 h2
    rw [seenV_length] at h1
    simp [seenV, marks_has, h1]
theorem seenV_at (l : List Mk) {n j : Nat} (h : j < n) : (seenV l n)[j]? = some (.bool (!hasL l (j : Int))) := by simp [seenV, h]
theorem seenV_set (l : List Mk) (n d : Nat) : (seenV l n).set d (.bool true) = seenV (stopL l (d : Int)) n := by
  apply List.ext_getElem
  · simp [seenV]
  · intro i h1 h2
    rw [List.length_set, seenV_length] at h1
    rw [List.getElem_set]
    simp only [seenV, List.getElem_map, List.getElem_range]
    rw [has_stop]
    by_cases e : d = i
    · subst e
      simp
    · rw [if_neg e, decide_eq_true (show (i : Int) ≠ (d : Int) by omega), Bool.true_and]
/-- What the second loop knows. -/
structure Al (xs : List Nat) (n : Nat) (l : List Mk) (last : Int) : Prop where
  one : One1 l
  each : ∀ x ∈ l, ∃ j : Nat, j < n ∧ x = ((j : Int), ((xs.getD j 0 : Nat) : Int))
  low : ∀ x ∈ l, last ≤ x.2
theorem Al.start (xs : List Nat) (n : Nat) : Al xs n (marks xs n) 0 := by
  refine ⟨marks_one xs n, fun x hx => ?_, fun x hx => ?_⟩
  · obtain ⟨j, hj, rfl⟩ := List.mem_map.1 hx
    exact ⟨j, List.mem_range.1 hj, rfl⟩
  · obtain ⟨j, hj, rfl⟩ := List.mem_map.1 hx
    show (0 : Int) ≤ ((xs.getD j 0 : Nat) : Int)
    omega
/-- The next one. -/
theorem Al.next {xs : List Nat} {n : Nat} {l : List Mk} {last : Int} (h : Al xs n l last) (hx : ∀ x ∈ xs, x < 65536) (hp : 0 < l.length) :
    ∃ j : Nat, j < n ∧ dueL l 131072 = some ((j : Int), ((xs.getD j 0 : Nat) : Int)) ∧ hasL l (j : Int) = true ∧ last ≤ ((xs.getD j 0 : Nat) : Int) ∧ (stopL l (j : Int)).length + 1 = l.length ∧ Al xs n (stopL l (j : Int)) ((xs.getD j 0 : Nat) : Int) := by
  cases e : bestL l with
  | none =>
    rw [bestL_none e] at hp
    simp at hp
  | some m =>
    obtain ⟨h1, h2⟩ := bestL_some e
    obtain ⟨j, hj, rfl⟩ := h.each m h1
    have hb : xs.getD j 0 < 65536 := by
      rw [List.getD_eq_getElem?_getD]
      cases e2 : xs[j]? with
      | none => simp
      | some y => exact hx y (List.mem_of_getElem? e2)
    refine ⟨j, hj, ?_, hasL_iff.2 ⟨_, h1, rfl⟩, h.low _ h1, stop_length h.one h1, h.one.stop _, fun x hx => h.each x (mem_stopL.1 hx).1, fun x hx => ?_⟩
    · unfold dueL
      rw [e]
      simp only
      rw [if_pos (by omega)]
    · have := h2 x (mem_stopL.1 hx).1
      rw [Bool.eq_false_iff] at this
      simp only [ltM, ne_eq, Bool.or_eq_true, Bool.and_eq_true, decide_eq_true_eq] at this
      omega
end Bl

theorem make_bools (n : Nat) (hn : n ≤ 1000) (w : World) : (Instr.makeSlice 41 (.int .i64 (n : Int)) (.int .i64 (n : Int))).run Try.prog w = .ok (.slice (some ⟨w.heap.size, 0, none⟩) n n) (w.alloc (.cells (List.replicate n (Value.bool false)).toArray 4)) := by
  obtain ⟨i0, h1, h2, h3, h4⟩ := info_parts (P := Try.prog) (e := 4) (show (Try.prog.info? 4).map (fun i => (i.zero, i.size, i.bytes)) = some (some (.bool false), 1, 1) by kernel_rfl)
  have := run_make (P := Try.prog) w 41 4 i0 (.bool false) Try.underlying41 h1 h2 .i64 .i64 (n : Int) (n : Int) (by omega) (Int.le_refl _) (by rw [h4]; omega) (by omega)
  rw [this, h3]
  simp only [Int.toNat_natCast, Nat.mul_one]
  congr 3
  simp only [Value.cells]
  rw [← toList_madeCells_one]
/-- Behind the sets: what the second loop knows of memory. -/
structure AlW (K : BellK) (w : World) (gs : Nat) (a : Addr) (xs : List Nat) (n : Nat) (l : List Mk) (wr : World) : Prop where
  bel : Bel K w (fun g => g = gs) a l wr
  row : Row wr gs 4 (seenV l n)
  le : w.heap.size ≤ gs

set_option maxRecDepth 100000 in
set_option maxHeartbeats 4000000 in
theorem walkK_BellAll (K : BellK) (v0 : Value) (w : World) (w0 : IsNums .u16 65536 70368744177664 w v0) :
    Calls Try.prog 4 #[v0] w fun e w' => e = .returned (.bool true) ∧ Old w w' := by
  obtain ⟨a, len, cap, xs, rfl, hl, hx, rd, hm, hcap⟩ := w0
  have AW := hide (awake19 K)
  have N := hide (Bel.new K (Old.refl w))
  have HL := hide hl
  have HX := hide hx
  have HR := hide rd
  clear hl hx rd hcap
  go_enter Try.func4, Try.ntmps4
  go_wp2_with fail
  refine N.out.mono ?_
  rintro e w1 ⟨g, rfl, b1⟩
  have B1 := hide b1
  clear b1 N
  go_wp2_with fail
  refine (AW.out _).mono ?_
  rintro e w2 ⟨rfl, o2⟩
  have B2 : Hid (Bel K w nix g (marks xs 0) w2) := B1.out.mono o2
  clear B1 o2
  go_wp2_with fail
  go_loopw [4, 5] (fun vn vi wr => ∃ i : Nat, i ≤ len ∧ i ≤ 100 ∧ vn = .int .i64 (i : Nat) ∧ vi = .int .i64 (i : Nat) ∧ Hid (Bel K w nix g (marks xs i) wr)) (fun _ vi _ => 100 - (intOf vi).toNat)
  case atStart => exact ⟨0, by omega, by omega, rfl, rfl, B2⟩
  case round =>
    clear B2
    obtain ⟨i, hi, hi100, rfl, rfl, B⟩ := hrel
    by_cases hlt : i < len ∧ i < 100
    · obtain ⟨h1, h2⟩ := hlt
      obtain ⟨b, off, x, rfl, Hx, hc⟩ := (HR.out.mono B.out.old).num (i := i) (by rw [HL.out]; exact h1)
      have hb : x < 65536 := HX.out x (List.mem_of_getElem? Hx.out)
      have hxd : xs.getD i 0 = x := by rw [List.getD_eq_getElem?_getD, Hx.out]; rfl
      have hs := marks_next xs i
      rw [hxd] at hs
      have S := hide (Bel.set0 B.out (i : Int) (x : Int) (marks xs (i + 1)) (marks_one xs i) (by rw [marks_length]; omega) (b64s _ (by omega) (by omega)) (by omega) (by omega) hs)
      have q0 : (0 : Int) ≤ i := by omega
      have q1 : (i : Int) < len := by omega
      have q2 : (i : Int) < 100 := by omega
      have q3 : (x : Int) < 65536 := by omega
      clear hs hxd Hx hb
      go_wp2_with fail
      refine S.out.mono ?_
      rintro e w3 ⟨rfl, b3, -⟩
      have B3 := hide b3
      clear b3 S q3
      go_wp2
      go_roundw
      case rel => exact ⟨i + 1, by omega, by omega, by go_num, by go_num, B3⟩
      case measure => simp [intOf]; omega
    · have mk := make_bools i (by omega) wr
      have R0 := Row.new wr 4 (List.replicate i (Value.bool false))
      rw [← seenV_none xs i] at mk R0
      have W0 : Hid (AlW K w wr.heap.size g xs i (marks xs i) (wr.alloc (.cells (seenV (marks xs i) i).toArray 4)) ∧ Al xs i (marks xs i) 0 ∧ (marks xs i).length + 0 = i) :=
        ⟨⟨B.out.again (Old.of_alloc _ _) (fun q hq => ⟨.inr (by omega), by subst hq; exact R0.lt⟩), R0, B.out.old.size⟩, Al.start xs i, by rw [marks_length]; rfl⟩
      clear R0
      revert mk W0
      generalize marks xs i = l0
      generalize seenV l0 i = sv
      generalize wr.heap.size = gs
      intro mk W0
      have cs : (decide (i < len) = true ∧ decide ((i : Int) < 100) = false) ∨ decide (i < len) = false := by
        by_cases q : i < len
        · exact .inl ⟨decide_eq_true q, decide_eq_false (by omega)⟩
        · exact .inr (decide_eq_false q)
      have hi0 : (0 : Int) ≤ i := by omega
      clear hlt
      rcases cs with ⟨d1, d2⟩ | d1
      all_goals
        go_wp2_with fail
        go_loopw [7, 8] (fun vl vi w9 => ∃ k : Nat, ∃ last : Int, ∃ l : List Mk, k ≤ i ∧ vl = .int .i64 last ∧ vi = .int .i64 (k : Nat) ∧ Hid (AlW K w gs g xs i l w9 ∧ Al xs i l last ∧ l.length + k = i)) (fun _ vi _ => i - (intOf vi).toNat)
        case atStart => exact ⟨0, 0, l0, by omega, rfl, rfl, W0⟩
        case round =>
          clear W0 mk
          obtain ⟨k, last, l, hk, rfl, rfl, R⟩ := hrel
          obtain ⟨AB, AA, AE⟩ := R.out
          by_cases hki : k = i
          · have hl0 : l = [] := List.eq_nil_of_length_eq_zero (by omega)
            subst hl0
            have C := hide (Bel.no AB.bel 131072 (by decide) (by decide) rfl)
            have t1 : decide (k < i) = false := decide_eq_false (by omega)
            have t2 : decide ((k : Int) < i) = false := decide_eq_false (by omega)
            clear R AB AA AE hki hk hi100 hi0
            go_wp2_with fail
            refine C.out.mono ?_
            rintro e w5 ⟨rfl, b5, -⟩
            have O := hide b5.old
            clear C b5
            go_wp2
            go_ret
            exact ⟨by first | rfl | simp, O.out⟩
          · obtain ⟨j, hj, hd, hh, hlow, hlen, AN⟩ := AA.next HX.out (by omega)
            have C := hide (Bel.due AB.bel 131072 _ AA.one (by omega) hd)
            dsimp only at C
            obtain ⟨b, off, x, hab, Hx, _⟩ := HR.out.num (i := j) (by rw [HL.out]; omega)
            subst hab
            have hxd : xs.getD j 0 = x := by rw [List.getD_eq_getElem?_getD, Hx.out]; rfl
            have hb : x < 65536 := HX.out x (List.mem_of_getElem? Hx.out)
            rw [hxd] at AN hlow
            have F1 : Hid (∀ w5, Bel K w (fun g => g = gs) g (stopL l (j : Int)) w5 → Kept (fun g => g = gs) wr w5 →
                w5.cell? ⟨gs, j, none⟩ = some (.bool false) ∧ w5.frozen? ⟨gs, j, none⟩ = false ∧ w5.cell? ⟨b, off + j, none⟩ = some (.int .u16 (x : Nat)) ∧ (w5.setCell ⟨gs, j, none⟩ (.bool true)).cell? ⟨b, off + j, none⟩ = some (.int .u16 (x : Nat)) ∧
                Hid (AlW K w gs g xs i (stopL l (j : Int)) (w5.setCell ⟨gs, j, none⟩ (.bool true)) ∧ Al xs i (stopL l (j : Int)) (x : Int) ∧ (stopL l (j : Int)).length + (k + 1) = i)) := by
              intro w5 b5 k5
              have r5 := k5.row AB.row rfl
              obtain ⟨b', off', x', hab, Hx', hc⟩ := (HR.out.mono b5.old).num (i := j) (by rw [HL.out]; omega)
              cases hab
              have : x' = x := by
                have := Hx.out
                rw [Hx'.out] at this
                cases this
                rfl
              subst this
              have hbl : b < w.heap.size := HR.out.lt rfl (by rw [nums_length, HL.out]; omega)
              refine ⟨?_, r5.free j, hc, (grown_set w5 gs j (.bool true)).cell hc (by have := AB.le; simp; omega), ⟨b5.grown (grown_set _ _ _ _) rfl AB.le, by rw [← seenV_set]; exact r5.set j _, AB.le⟩, AN, by omega⟩
              have := r5.cell (seenV_at l hj)
              rwa [hh] at this
            have q0 : (0 : Int) ≤ k := by omega
            have t1 : decide (k < i) = true := decide_eq_true (by omega)
            have t2 : decide ((j : Int) < 0) = false := decide_eq_false (by omega)
            have t3 : decide (i ≤ j) = false := decide_eq_false (by omega)
            have t4 : decide ((x : Int) < last) = false := decide_eq_false (by omega)
            have j0 : (0 : Int) ≤ j := by omega
            have j1 : (j : Int) < i := by omega
            have j2 : (j : Int) < len := by omega
            have X1 := hide (show (x : Int) < 65536 by omega)
            have LL := hide hlen
            clear R AB AA AE hd hh hlow hlen AN Hx hxd hb
            go_wp2_with fail
            refine C.out.mono ?_
            rintro e w5 ⟨rfl, b5, k5⟩
            obtain ⟨c1, c2, c3, c4, R5⟩ := F1.out w5 b5 k5
            have x1 := X1.out
            clear C F1 b5 k5 X1
            go_wp2
            go_roundw
            case rel => exact ⟨k + 1, x, _, by omega, rfl, by go_num, R5⟩
            case measure => simp [intOf]; omega
end Go.Proofs.Ytnmigdcedcmbkaa
