/-
  Layer 19's statement BellMoves, if the layer's calls are what they owe.
-/
import Derived.Test.YtnmigdcedcmbkaaAwake19
import Derived.Test.YtnmigdcedcmbkaaOpenSp
namespace Go.Proofs.Ytnmigdcedcmbkaa
open Go.RowKit Bl Pn
set_option linter.unusedVariables false

theorem mk16 {v : Value} (h : IsInt .u16 v) : ∃ n : Nat, n < 65536 ∧ v = .int .u16 (n : Int) := by
  obtain ⟨a, rfl, h⟩ := h
  have := bounds_u16 h
  exact ⟨a.toNat, by omega, by congr; omega⟩

namespace Bl
theorem moves_first {b c : Nat} (h : ¬ c < b) : dueL [(1, (b : Int)), (2, (c : Int))] (b : Int) = some (1, (b : Int)) := by
  unfold dueL
  rw [bestL_is (m := (1, (b : Int))) (by simp) (fun x hx => by
    simp only [List.mem_cons, List.not_mem_nil, or_false] at hx
    rcases hx with rfl | rfl
    · exact ltM_irrefl _
    · rw [Bool.eq_false_iff]
      simp only [ltM, ne_eq, Bool.or_eq_true, Bool.and_eq_true, decide_eq_true_eq]
      omega)]
  simp
theorem moves_second {b c : Nat} (h : c < b) : dueL [(1, (b : Int)), (2, (c : Int))] (b : Int) = some (2, (c : Int)) := by
  unfold dueL
  rw [bestL_is (m := (2, (c : Int))) (by simp) (fun x hx => by
    simp only [List.mem_cons, List.not_mem_nil, or_false] at hx
    rcases hx with rfl | rfl
    · rw [Bool.eq_false_iff]
      simp only [ltM, ne_eq, Bool.or_eq_true, Bool.and_eq_true, decide_eq_true_eq]
      omega
    · exact ltM_irrefl _)]
  simp
  omega
theorem one_due (x : Mk) (now : Int) (h : x.2 ≤ now) : dueL [x] now = some x := by
  unfold dueL bestL bestL
  simp [h]
theorem stop_two1 (b c : Int) : stopL [(1, b), (2, c)] 1 = [(2, c)] := by simp [stopL]
theorem stop_two2 (b c : Int) : stopL [(1, b), (2, c)] 2 = [(1, b)] := by simp [stopL]
theorem stop_one (x : Mk) : stopL [x] x.1 = [] := by simp [stopL]
end Bl

set_option maxRecDepth 100000 in
set_option maxHeartbeats 4000000 in
theorem walkK_BellMoves (K : BellK) (v0 v1 v2 v3 : Value) (w : World) (w0 : IsInt .u16 v0) (w1 : IsInt .u16 v1) (w2 : IsInt .u16 v2) (w3 : IsBool v3) :
    Calls Try.prog 6 #[v0, v1, v2, v3] w fun e w' => e = .returned (.bool true) ∧ Old w w' := by
  obtain ⟨a, ha, rfl⟩ := mk16 w0
  obtain ⟨b, hb, rfl⟩ := mk16 w1
  obtain ⟨c, hc, rfl⟩ := mk16 w2
  obtain ⟨st, rfl⟩ := w3
  have AW := hide (awake19 K)
  have N := hide (fun (w1 : World) (o : Old w w1) => Bel.new K o)
  have S1 := hide (fun (g : Addr) (w' : World) (h : Hid (Bel K w nix g [] w')) => Bel.set0 h.out 1 a [(1, (a : Int))] (by decide) (by decide) (b64s _ (by decide) (by decide)) (by omega) (by omega) rfl)
  have S2 := hide (fun (g : Addr) (w' : World) (h : Hid (Bel K w nix g [(1, (a : Int))] w')) => Bel.set0 h.out 2 c [(1, (a : Int)), (2, (c : Int))] (by simp [One1]) (by simp) (b64s _ (by decide) (by decide)) (by omega) (by omega) (by simp [setL, hasL]))
  have S3 := hide (fun (g : Addr) (w' : World) (h : Hid (Bel K w nix g [(1, (a : Int)), (2, (c : Int))] w')) => Bel.set0 h.out 1 b [(1, (b : Int)), (2, (c : Int))] (by simp [One1]) (by simp) (b64s _ (by decide) (by decide)) (by omega) (by omega) (by simp [setL, hasL]))
  have o2 : One1 [(1, (b : Int)), (2, (c : Int))] := by simp [One1]
  have T1 := hide (fun (g : Addr) (w' : World) (h : Hid (Bel K w nix g [(1, (b : Int)), (2, (c : Int))] w')) => Bel.stop h.out 2 o2 (by simp) (b64s _ (by decide) (by decide)))
  rw [stop_two2, show hasL [(1, (b : Int)), (2, (c : Int))] 2 = true by simp [hasL]] at T1
  have E1 := hide (fun (g : Addr) (x : Mk) (hx : x.2 ≤ 131072) (w' : World) (h : Hid (Bel K w nix g [x] w')) => Bel.due h.out 131072 x (by simp [One1]) (by simp) (one_due x _ hx))
  have E2 := hide (fun (g : Addr) (x : Mk) (w' : World) (h : Hid (Bel K w nix g [x] w')) (t : Int) (hx : x.2 ≤ t) => Bel.due h.out t x (by simp [One1]) (by simp) (one_due x _ hx))
  have E0 := hide (fun (g : Addr) (w' : World) (h : Hid (Bel K w nix g [] w')) => Bel.no h.out 131072 (by decide) (by decide) rfl)
  clear w0 w1 w2
  have ha2 : (a : Int) < 65536 := by omega
  have hb2 : (b : Int) < 65536 := by omega
  have hc2 : (c : Int) < 65536 := by omega
  go_enter Try.func6, Try.ntmps6
  go_wp2_with fail
  refine (N.out w (Old.refl _)).mono ?_
  rintro e w1 ⟨g, rfl, b1⟩
  have B1 := hide b1
  clear b1 N
  go_wp2_with fail
  refine (AW.out _).mono ?_
  rintro e w2 ⟨rfl, o2⟩
  have B2 := hide (B1.out.mono o2)
  clear B1 o2
  go_wp2_with fail
  refine (S1.out g _ B2).mono ?_
  rintro e w3 ⟨rfl, b3, -⟩
  have B3 := hide b3
  clear b3 B2 S1
  go_wp2_with fail
  refine (S2.out g _ B3).mono ?_
  rintro e w4 ⟨rfl, b4, -⟩
  have B4 := hide b4
  clear b4 B3 S2
  go_wp2_with fail
  refine (S3.out g _ B4).mono ?_
  rintro e w5 ⟨rfl, b5, -⟩
  have B5 := hide b5
  clear b5 B4 S3
  cases st
  · by_cases hcb : c < b
    · have D1 := hide (Bel.due B5.out b (2, (c : Int)) o2 (by simp) (moves_second hcb))
      rw [stop_two2] at D1
      dsimp only at D1
      have d1 : decide (c < b) = true := decide_eq_true hcb
      have E3 := hide (fun w' h => E1.out g (1, (b : Int)) (by show (b : Int) ≤ 131072; omega) w' h)
      dsimp only at E3
      clear hcb
      go_wp2_with fail
      refine D1.out.mono ?_
      rintro e w6 ⟨rfl, b6, -⟩
      have B6 := hide b6
      clear b6 B5 D1
      go_wp2_with fail
      refine (E3.out _ B6).mono ?_
      rintro e w7 ⟨rfl, b7, -⟩
      have O := hide b7.old
      clear b7 B6 E3
      go_wp2
      go_ret
      exact ⟨by first | rfl | simp, O.out⟩
    · have D1 := hide (Bel.due B5.out b (1, (b : Int)) o2 (by simp) (moves_first hcb))
      rw [stop_two1] at D1
      dsimp only at D1
      have d1 : decide (c < b) = false := decide_eq_false hcb
      have E3 := hide (fun w' h => E1.out g (2, (c : Int)) (by show (c : Int) ≤ 131072; omega) w' h)
      dsimp only at E3
      clear hcb
      go_wp2_with fail
      refine D1.out.mono ?_
      rintro e w6 ⟨rfl, b6, -⟩
      have B6 := hide b6
      clear b6 B5 D1
      go_wp2_with fail
      refine (E3.out _ B6).mono ?_
      rintro e w7 ⟨rfl, b7, -⟩
      have O := hide b7.old
      clear b7 B6 E3
      go_wp2
      go_ret
      exact ⟨by first | rfl | simp, O.out⟩
  · go_wp2_with fail
    refine (T1.out g _ B5).mono ?_
    rintro e w6 ⟨rfl, b6, -⟩
    have B6 := hide b6
    have D1 := hide (E2.out g (1, (b : Int)) w6 B6 b (Int.le_refl _))
    rw [stop_one] at D1
    dsimp only at D1
    clear b6 B5 T1
    go_wp2_with fail
    refine D1.out.mono ?_
    rintro e w7 ⟨rfl, b7, -⟩
    have B7 := hide b7
    clear b7 B6 D1
    go_wp2_with fail
    refine (E0.out g _ B7).mono ?_
    rintro e w8 ⟨rfl, b8, -⟩
    have O := hide b8.old
    clear b8 B7 E0
    go_wp2
    go_ret
    exact ⟨by first | rfl | simp, O.out⟩
end Go.Proofs.Ytnmigdcedcmbkaa
