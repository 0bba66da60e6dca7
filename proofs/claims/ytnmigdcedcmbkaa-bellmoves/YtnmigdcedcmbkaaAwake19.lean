/-
  Layer 19's fixed fact, and the statement BellNone, if the layer's calls are what they owe.
-/
import Derived.Test.YtnmigdcedcmbkaaBellC
import Derived.Test.YtnmigdcedcmbkaaOpen
namespace Go.Proofs.Ytnmigdcedcmbkaa
open Go.RowKit Bl Pn
set_option linter.unusedVariables false

theorem b64s (z : Int) (h : -9000000000000 ≤ z) (h' : z ≤ 9000000000000) : B64 z := by unfold B64; omega
section
variable {K : BellK} {w0 w : World} {Kp : Nat → Prop} {a : Addr} {l : List Mk}
theorem Bel.set0 (h : Bel K w0 Kp a l w) (who t : Int) (l' : List Mk) (h1 : One1 l) (hl : l.length ≤ 1000) (hw : B64 who) (ht : 0 ≤ t) (ht2 : t ≤ 1099511627776) (e : setL l who t = l') :
    Calls Try.prog 9 #[.pointer (some a), .int .i64 who, .int .i64 t] w fun e w' => e = .returned (.int .i64 0) ∧ Bel K w0 Kp a l' w' ∧ Kept Kp w w' := by
  have e0 : setE t = 0 := by unfold setE; rw [if_pos ⟨ht, ht2⟩]
  have := Bel.set h who t h1 hl hw (by unfold B64; omega)
  rw [e0, if_pos rfl, e] at this
  exact this
end

set_option maxRecDepth 100000 in
set_option maxHeartbeats 2000000 in
theorem awake19 (K : BellK) (w : World) : Calls Try.prog 8 #[] w fun e w' => e = .returned (.bool true) ∧ Old w w' := by
  have N := hide (Bel.new K (Old.refl w))
  have S1 := hide (fun (a : Addr) (w' : World) (h : Hid (Bel K w nix a [] w')) => Bel.set0 h.out 2 5 [(2, 5)] (by decide) (by decide) (b64s _ (by decide) (by decide)) (by decide) (by decide) (by decide))
  have S2 := hide (fun (a : Addr) (w' : World) (h : Hid (Bel K w nix a [(2, 5)] w')) => Bel.set0 h.out 1 5 [(2, 5), (1, 5)] (by decide) (by decide) (b64s _ (by decide) (by decide)) (by decide) (by decide) (by decide))
  have S3 := hide (fun (a : Addr) (w' : World) (h : Hid (Bel K w nix a [(2, 5), (1, 5)] w')) => Bel.set0 h.out 3 4 [(2, 5), (1, 5), (3, 4)] (by decide) (by decide) (b64s _ (by decide) (by decide)) (by decide) (by decide) (by decide))
  have S4 := hide (fun (a : Addr) (w' : World) (h : Hid (Bel K w nix a [(2, 5), (1, 5), (3, 4)] w')) => Bel.set0 h.out 3 9 [(2, 5), (1, 5), (3, 9)] (by decide) (by decide) (b64s _ (by decide) (by decide)) (by decide) (by decide) (by decide))
  have D1 := hide (fun (a : Addr) (w' : World) (h : Hid (Bel K w nix a [(2, 5), (1, 5), (3, 9)] w')) => Bel.due h.out 5 (1, 5) (by decide) (by decide) (by decide))
  have D2 := hide (fun (a : Addr) (w' : World) (h : Hid (Bel K w nix a [(2, 5), (3, 9)] w')) => Bel.due h.out 5 (2, 5) (by decide) (by decide) (by decide))
  have D3 := hide (fun (a : Addr) (w' : World) (h : Hid (Bel K w nix a [(3, 9)] w')) => Bel.no h.out 5 (by decide) (by decide) (by decide))
  have X1 := hide (fun (a : Addr) (w' : World) (h : Hid (Bel K w nix a [(3, 9)] w')) => Bel.next h.out (3, 9) (by decide) (by decide) (by decide))
  have T1 := hide (fun (a : Addr) (w' : World) (h : Hid (Bel K w nix a [(3, 9)] w')) => Bel.stop h.out 3 (by decide) (by decide) (b64s _ (by decide) (by decide)))
  have T2 := hide (fun (a : Addr) (w' : World) (h : Hid (Bel K w nix a [] w')) => Bel.stop h.out 3 (by decide) (by decide) (b64s _ (by decide) (by decide)))
  rw [show stopL [(2, 5), (1, 5), (3, 9)] ((1, 5) : Mk).1 = [(2, 5), (3, 9)] by decide] at D1
  rw [show stopL [(2, 5), (3, 9)] ((2, 5) : Mk).1 = [(3, 9)] by decide] at D2
  rw [show stopL [(3, 9)] 3 = [] by decide, show hasL [(3, 9)] 3 = true by decide] at T1
  rw [show stopL [] 3 = [] by decide, show hasL [] 3 = false by decide] at T2
  go_enter Try.func8, Try.ntmps8
  go_wp2_with fail
  refine N.out.mono ?_
  rintro e w1 ⟨a, rfl, b1⟩
  have B1 := hide b1
  clear b1 N
  go_wp2_with fail
  refine (S1.out a _ B1).mono ?_
  rintro e w2 ⟨rfl, b2, -⟩
  have B2 := hide b2
  clear b2 B1 S1
  go_wp2_with fail
  refine (S2.out a _ B2).mono ?_
  rintro e w3 ⟨rfl, b3, -⟩
  have B3 := hide b3
  clear b3 B2 S2
  go_wp2_with fail
  refine (S3.out a _ B3).mono ?_
  rintro e w4 ⟨rfl, b4, -⟩
  have B4 := hide b4
  clear b4 B3 S3
  go_wp2_with fail
  refine (S4.out a _ B4).mono ?_
  rintro e w5 ⟨rfl, b5, -⟩
  have B5 := hide b5
  clear b5 B4 S4
  go_wp2_with fail
  refine (D1.out a _ B5).mono ?_
  rintro e w6 ⟨rfl, b6, -⟩
  have B6 := hide b6
  clear b6 B5 D1
  go_wp2_with fail
  refine (D2.out a _ B6).mono ?_
  rintro e w7 ⟨rfl, b7, -⟩
  have B7 := hide b7
  clear b7 B6 D2
  go_wp2_with fail
  refine (D3.out a _ B7).mono ?_
  rintro e w8 ⟨rfl, b8, -⟩
  have B8 := hide b8
  clear b8 B7 D3
  go_wp2_with fail
  refine (X1.out a _ B8).mono ?_
  rintro e w9 ⟨rfl, b9, -⟩
  have B9 := hide b9
  clear b9 B8 X1
  go_wp2_with fail
  refine (T1.out a _ B9).mono ?_
  rintro e wa ⟨rfl, ba, -⟩
  have BA := hide ba
  clear ba B9 T1
  go_wp2_with fail
  refine (T2.out a _ BA).mono ?_
  rintro e wb ⟨rfl, bb, -⟩
  have O := hide bb.old
  clear bb BA T2
  go_wp2
  go_ret
  exact ⟨by first | rfl | simp, O.out⟩

set_option maxRecDepth 100000 in
set_option maxHeartbeats 2000000 in
theorem walkK_BellNone (K : BellK) (v0 v1 : Value) (w : World) (w0 : IsInt .i64 v0) (w1 : IsInt .i64 v1) :
    Calls Try.prog 5 #[v0, v1] w fun e w' => e = .returned (.bool true) ∧ Old w w' := by
  obtain ⟨who, rfl, -⟩ := w0
  obtain ⟨t, rfl, -⟩ := w1
  have AW := hide (awake19 K)
  have C1 := hide (K.nilStrike t)
  have C2 := hide (K.nilNext)
  have C3 := hide (K.nilSet who t)
  have C4 := hide (K.nilStop who)
  clear K
  go_enter Try.func5, Try.ntmps5
  go_wp2_with fail
  refine (C1.out _).mono ?_
  rintro e w1 ⟨rfl, o1⟩
  have O1 := hide o1
  clear o1
  go_wp2_with fail
  refine (C2.out _).mono ?_
  rintro e w2 ⟨rfl, o2⟩
  have O2 := hide (O1.out.trans o2)
  clear O1 o2
  go_wp2_with fail
  refine (AW.out _).mono ?_
  rintro e w3 ⟨rfl, o3⟩
  have O3 := hide (O2.out.trans o3)
  clear O2 o3
  go_wp2_with fail
  refine (C3.out _).mono ?_
  rintro e w4 ⟨rfl, o4⟩
  have O4 := hide (O3.out.trans o4)
  clear O3 o4
  go_wp2_with fail
  refine (C4.out _).mono ?_
  rintro e w5 ⟨rfl, o5⟩
  have O5 := hide (O4.out.trans o5)
  clear O4 o5
  go_wp2
  go_ret
  exact ⟨by first | rfl | simp, O5.out⟩
end Go.Proofs.Ytnmigdcedcmbkaa
