/-
  container/heap over HpK: down.
-/
import Derived.Test.YtnmigdcedcmbkaaHeapG
namespace Go.Proofs.Ytnmigdcedcmbkaa
open Go.RowKit Bl Hp
set_option linter.unusedVariables false

section
variable {E : Type} [Inhabited E] {key : E → Mk} {b : Nat} {St : List E → World → Prop} {R : World → World → Prop}
/-- What down leaves: it moved nothing, or all is a heap. -/
def DownPost (key : E → Mk) (n i0 : Nat) (xs : List E) (r : Bool) (ys : List E) : Prop := ys.Perm xs ∧ Beyond n xs ys ∧ (r = true → Heap (kf key ys) n) ∧ (r = false → ys = xs ∧ UpOk (kf key xs) n i0)
/-- .. on its way, at place i. -/
structure DownAt (key : E → Mk) (n i0 : Nat) (xs : List E) (i : Nat) (ys : List E) : Prop where
  perm : ys.Perm xs
  beyond : Beyond n xs ys
  any : AnyOk (kf key ys) n i
  way : (i = i0 ∧ ys = xs) ∨ (i0 < i ∧ DownOk (kf key ys) n i)
theorem DownAt.stop {n i0 : Nat} {xs : List E} {i : Nat} {ys : List E} (h : DownAt key n i0 xs i ys) (hc : ∀ k, 0 < k → k < n → (k - 1) / 2 = i → ltM (kf key ys k) (kf key ys i) = false) : DownPost key n i0 xs (decide (i0 < i)) ys := by
  refine ⟨h.perm, h.beyond, fun hr => ?_, fun hr => ?_⟩
  · rcases h.way with ⟨rfl, _⟩ | ⟨_, hd⟩
    · simp at hr
    · exact hd.done hc
  · rcases h.way with ⟨rfl, e⟩ | ⟨hl, _⟩
    · subst e
      exact ⟨rfl, h.any.up hc⟩
    · rw [decide_eq_true hl] at hr
      cases hr
theorem DownAt.step {n i0 : Nat} {xs : List E} {i j : Nat} {ys : List E} (h : DownAt key n i0 xs i ys) (hn : n ≤ ys.length) (hj : j < n) (hp : (j - 1) / 2 = i) (h0 : 0 < j) (hi : i0 ≤ i) (hmin : ∀ k, 0 < k → k < n → (k - 1) / 2 = i → ltM (kf key ys k) (kf key ys j) = false) (hl : ltM (kf key ys j) (kf key ys i) = true) :
    DownAt key n i0 xs j (swp ys i j) := by
  have hd := h.any.step h0 hj hp hmin hl (fun k => kf_swp key ys (i := i) (j := j) (by omega) (by omega) k)
  exact ⟨(swp_perm ys (by omega) (by omega)).trans h.perm, h.beyond.swp (by omega) hj hn, hd.1, .inr ⟨by omega, hd⟩⟩

set_option maxHeartbeats 8000000 in
theorem down_any (K : HpK key b St R) (xs : List E) (n i0 : Nat) (w : World) (S : St xs w) (hn : n ≤ xs.length) (hi0 : i0 ≤ 100000) (U : AnyOk (kf key xs) n i0) :
    Calls Try.prog 19 #[.iface 57 (.pointer (some ⟨b, 0, none⟩)), .int .i64 (i0 : Int), .int .i64 (n : Int)] w fun e w' => ∃ (r : Bool) (ys : List E), e = .returned (.bool r) ∧ DownPost key n i0 xs r ys ∧ St ys w' ∧ R w w' := by
  have KK := hide K
  obtain ⟨m, hm⟩ : ∃ m, xs.length = m := ⟨_, rfl⟩
  have HM := hide hm
  have X0 : Hid (DownAt key n i0 xs i0 xs ∧ St xs w ∧ R w w) := ⟨⟨List.Perm.refl _, fun _ _ => rfl, U, .inl ⟨rfl, rfl⟩⟩, S, K.refl w⟩
  have m100 : m ≤ 100000 := by
    obtain ⟨_, _, _, h⟩ := K.cell S
    omega
  rw [hm] at hn
  clear hm S U K
  go_enter Try.func19, Try.ntmps19
  go_wp2_with fail
  go_loopw [7, 8, 9, 10] (fun vi v8 v9 v10 wr => ∃ i : Nat, ∃ ys : List E, i0 ≤ i ∧ i ≤ 100000 ∧ vi = .int .i64 (i : Int) ∧ Hid (DownAt key n i0 xs i ys ∧ St ys wr ∧ R w wr)) (fun vi _ _ _ _ => 200000 - (intOf vi).toNat)
  case atStart => exact ⟨i0, xs, Nat.le_refl _, hi0, rfl, X0⟩
  case round =>
    clear X0
    obtain ⟨i, ys, hii, hi, rfl, X⟩ := hrel
    have ly := X.out.1.perm.length_eq
    rw [HM.out] at ly
    have b0 : (0 : Int) ≤ i := by omega
    have b1 : (i : Int) ≤ 100000 := by omega
    have HB := hide ly
    by_cases h1 : n ≤ 2 * i + 1
    · have F := hide (X.out.1.stop (fun k h1 h2 h3 => by omega))
      have SX := hide (X.out.2)
      have d1 : decide ((n : Int) ≤ 2 * (i : Int) + 1) = true := decide_eq_true (by omega)
      clear X ly h1
      go_wp2_with fail
      go_ret
      exact ⟨_, ys, by first | rfl | simp, F.out, SX.out.1, SX.out.2⟩
    · have d1 : decide ((n : Int) ≤ 2 * (i : Int) + 1) = false := decide_eq_false (by omega)
      have d2 : decide (2 * (i : Int) + 1 < 0) = false := decide_eq_false (by omega)
      have LS : Hid (∀ (p q : Nat) (w' : World), p < n → q < n → St ys w' → ∃ (a : Option Addr) (cap : Nat), w'.cell? ⟨b, 0, none⟩ = some (.slice a m cap) ∧ Calls Try.prog 37 #[.slice a m cap, .int .i64 (p : Int), .int .i64 (q : Int)] w' fun e w'' => e = .returned (.bool (ltM (kf key ys p) (kf key ys q))) ∧ St ys w'' ∧ R w' w'') := fun p q w' hp hq s' => by
        obtain ⟨a, cap, hc, -⟩ := KK.out.cell s'
        have := KK.out.lessK a cap p q s' hc (by omega) (by omega)
        rw [ly] at this hc
        exact ⟨a, cap, hc, this⟩
      have SW : Hid (∀ (q : Nat) (w' : World), q < n → St ys w' → ∃ (a : Option Addr) (cap : Nat), w'.cell? ⟨b, 0, none⟩ = some (.slice a m cap) ∧ Calls Try.prog 38 #[.slice a m cap, .int .i64 (i : Int), .int .i64 (q : Int)] w' fun e w'' => e = .returned (.tuple #[]) ∧ St (swp ys i q) w'' ∧ R w' w'') := fun q w' hq s' => by
        obtain ⟨a, cap, hc, -⟩ := KK.out.cell s'
        have := KK.out.swapK a cap i q s' hc (by omega) (by omega)
        rw [ly] at this hc
        exact ⟨a, cap, hc, this⟩
      obtain ⟨j1, hj1⟩ : ∃ j1 : Nat, j1 = 2 * i + 1 := ⟨_, rfl⟩
      have ej : 2 * (i : Int) + 1 = (j1 : Int) := by omega
      by_cases h2 : 2 * i + 2 < n
      · have d3 : decide ((j1 : Int) + 1 < n) = true := decide_eq_true (by omega)
        obtain ⟨j2, hj2⟩ : ∃ j2 : Nat, j2 = j1 + 1 := ⟨_, rfl⟩
        have ej2 : (j1 : Int) + 1 = (j2 : Int) := by omega
        have d4 : decide ((j2 : Int) < n) = true := decide_eq_true (by omega)
        obtain ⟨a, cap, hc, L⟩ := LS.out j2 j1 wr (by omega) (by omega) X.out.2.1
        have L := hide L
        have m1 := go_less hc
        have d5 : decide (j2 < n) = true := decide_eq_true (by omega)
        have d6 : decide (n ≤ j1) = false := decide_eq_false (by omega)
        have d7 : decide ((n : Int) ≤ (j1 : Int)) = false := decide_eq_false (by omega)
        have d8 : decide ((j1 : Int) < 0) = false := decide_eq_false (by omega)
        have HJ1 := hide hj1
        have HJ2 := hide hj2
        clear d1 d2 d3 hj1 hj2 h1 h2
        have DA := hide X.out.1
        have RW := hide X.out.2.2
        clear X ly
        cases hl2 : ltM (kf key ys j2) (kf key ys j1) with
        | true =>
          rw [hl2] at L
          have MIN : Hid (∀ k, 0 < k → k < n → (k - 1) / 2 = i → ltM (kf key ys k) (kf key ys j2) = false) := fun k x1 x2 x3 => by
            have := HJ1.out
            have := HJ2.out
            by_cases e : k = j2
            · rw [e]; exact ltM_irrefl _
            · rw [show k = j1 by omega]; exact ltM_asymm hl2
          have PAR : Hid ((j2 - 1) / 2 = i ∧ 0 < j2) := ⟨by have := HJ1.out; have := HJ2.out; omega, by have := HJ2.out; omega⟩
          have JN : Hid (j2 < n ∧ i < n) := ⟨by have := d5; simpa using this, by have := HJ1.out; have := HJ2.out; have := d5; simp at this; omega⟩
          clear hl2
          go_wp2_with fail
          refine L.out.mono ?_
          rintro e w4 ⟨rfl, s4, r4⟩
          have R4 := hide (KK.out.trans RW.out r4)
          have S4 := hide s4
          clear L m1 hc s4 r4
          obtain ⟨a2, cap2, hc2, L2⟩ := LS.out j2 i w4 JN.out.1 JN.out.2 S4.out
          have L2 := hide L2
          have m2 := go_less hc2
          cases hl : ltM (kf key ys j2) (kf key ys i) with
          | false =>
            rw [hl] at L2
            have F := hide (DA.out.stop (fun k x1 x2 x3 => not_ltM_trans hl (MIN.out k x1 x2 x3)))
            clear SW LS hl DA MIN PAR
            go_wp2_with fail
            refine L2.out.mono ?_
            rintro e w5 ⟨rfl, s5, r5⟩
            have RR := hide (KK.out.trans R4.out r5)
            have SS := hide s5
            clear L2 s5 r5 m2 hc2
            go_wp2
            go_ret
            exact ⟨_, ys, by first | rfl | simp, F.out, SS.out, RR.out⟩
          | true =>
            rw [hl] at L2
            have F := hide (DA.out.step (j := j2) (by rw [HB.out]; exact hn) JN.out.1 PAR.out.1 PAR.out.2 hii MIN.out hl)
            clear LS hl DA MIN
            go_wp2_with fail
            refine L2.out.mono ?_
            rintro e w5 ⟨rfl, s5, r5⟩
            obtain ⟨a3, cap3, hc3, C3⟩ := SW.out j2 w5 JN.out.1 s5
            have C3 := hide C3
            have RR := hide (KK.out.trans R4.out r5)
            have m3 := go_swap hc3
            clear L2 s5 r5 m2 hc2 SW
            go_wp2_with fail
            refine C3.out.mono ?_
            rintro e w6 ⟨rfl, s6, r6⟩
            have X2 : Hid (DownAt key n i0 xs j2 (swp ys i j2) ∧ St (swp ys i j2) w6 ∧ R w w6) := ⟨F.out, s6, KK.out.trans RR.out r6⟩
            have jb : j2 ≤ 100000 := by have := JN.out; omega
            have ji : i < j2 := by have := PAR.out; omega
            clear C3 s6 r6 m3 hc3 RR F JN PAR
            go_wp2
            go_roundw
            case rel => exact ⟨j2, _, by omega, jb, rfl, X2⟩
            case measure => simp [intOf]; omega
        | false =>
          rw [hl2] at L
          have MIN : Hid (∀ k, 0 < k → k < n → (k - 1) / 2 = i → ltM (kf key ys k) (kf key ys j1) = false) := fun k x1 x2 x3 => by
            have := HJ1.out
            have := HJ2.out
            by_cases e : k = j1
            · rw [e]; exact ltM_irrefl _
            · rw [show k = j2 by omega]; exact hl2
          have PAR : Hid ((j1 - 1) / 2 = i ∧ 0 < j1) := ⟨by have := HJ1.out; omega, by have := HJ1.out; omega⟩
          have JN : Hid (j1 < n ∧ i < n) := ⟨by have := d6; simp at this; omega, by have := HJ1.out; have := d6; simp at this; omega⟩
          clear hl2
          go_wp2_with fail
          refine L.out.mono ?_
          rintro e w4 ⟨rfl, s4, r4⟩
          have R4 := hide (KK.out.trans RW.out r4)
          have S4 := hide s4
          clear L m1 hc s4 r4
          obtain ⟨a2, cap2, hc2, L2⟩ := LS.out j1 i w4 JN.out.1 JN.out.2 S4.out
          have L2 := hide L2
          have m2 := go_less hc2
          cases hl : ltM (kf key ys j1) (kf key ys i) with
          | false =>
            rw [hl] at L2
            have F := hide (DA.out.stop (fun k x1 x2 x3 => not_ltM_trans hl (MIN.out k x1 x2 x3)))
            clear SW LS hl DA MIN PAR
            go_wp2_with fail
            refine L2.out.mono ?_
            rintro e w5 ⟨rfl, s5, r5⟩
            have RR := hide (KK.out.trans R4.out r5)
            have SS := hide s5
            clear L2 s5 r5 m2 hc2
            go_wp2
            go_ret
            exact ⟨_, ys, by first | rfl | simp, F.out, SS.out, RR.out⟩
          | true =>
            rw [hl] at L2
            have F := hide (DA.out.step (j := j1) (by rw [HB.out]; exact hn) JN.out.1 PAR.out.1 PAR.out.2 hii MIN.out hl)
            clear LS hl DA MIN
            go_wp2_with fail
            refine L2.out.mono ?_
            rintro e w5 ⟨rfl, s5, r5⟩
            obtain ⟨a3, cap3, hc3, C3⟩ := SW.out j1 w5 JN.out.1 s5
            have C3 := hide C3
            have RR := hide (KK.out.trans R4.out r5)
            have m3 := go_swap hc3
            clear L2 s5 r5 m2 hc2 SW
            go_wp2_with fail
            refine C3.out.mono ?_
            rintro e w6 ⟨rfl, s6, r6⟩
            have X2 : Hid (DownAt key n i0 xs j1 (swp ys i j1) ∧ St (swp ys i j1) w6 ∧ R w w6) := ⟨F.out, s6, KK.out.trans RR.out r6⟩
            have jb : j1 ≤ 100000 := by have := JN.out; omega
            have ji : i < j1 := by have := PAR.out; omega
            clear C3 s6 r6 m3 hc3 RR F JN PAR
            go_wp2
            go_roundw
            case rel => exact ⟨j1, _, by omega, jb, rfl, X2⟩
            case measure => simp [intOf]; omega
      · have d3 : decide ((j1 : Int) + 1 < n) = false := decide_eq_false (by omega)
        obtain ⟨j2, hj2⟩ : ∃ j2 : Nat, j2 = j1 + 1 := ⟨_, rfl⟩
        have ej2 : (j1 : Int) + 1 = (j2 : Int) := by omega
        have d5 : decide (j2 < n) = false := decide_eq_false (by omega)
        have d6 : decide (n ≤ j1) = false := decide_eq_false (by omega)
        have d8 : decide ((j1 : Int) < 0) = false := decide_eq_false (by omega)
        have MIN : Hid (∀ k, 0 < k → k < n → (k - 1) / 2 = i → ltM (kf key ys k) (kf key ys j1) = false) := fun k x1 x2 x3 => by
          rw [show k = j1 by omega]
          exact ltM_irrefl _
        have PAR : Hid ((j1 - 1) / 2 = i ∧ 0 < j1) := ⟨by omega, by omega⟩
        have JN : Hid (j1 < n ∧ i < n) := ⟨by omega, by omega⟩
        have HJ1 := hide hj1
        have DA := hide X.out.1
        have RW := hide X.out.2.2
        have S4 := hide X.out.2.1
        clear d1 d2 d3 hj1 hj2 h1 h2 X ly
        obtain ⟨a2, cap2, hc2, L2⟩ := LS.out j1 i wr JN.out.1 JN.out.2 S4.out
        have L2 := hide L2
        have m2 := go_less hc2
        cases hl : ltM (kf key ys j1) (kf key ys i) with
        | false =>
          rw [hl] at L2
          have F := hide (DA.out.stop (fun k x1 x2 x3 => not_ltM_trans hl (MIN.out k x1 x2 x3)))
          clear SW LS hl DA MIN PAR
          go_wp2_with fail
          refine L2.out.mono ?_
          rintro e w5 ⟨rfl, s5, r5⟩
          have RR := hide (KK.out.trans RW.out r5)
          have SS := hide s5
          clear L2 s5 r5 m2 hc2
          go_wp2
          go_ret
          exact ⟨_, ys, by first | rfl | simp, F.out, SS.out, RR.out⟩
        | true =>
          rw [hl] at L2
          have F := hide (DA.out.step (j := j1) (by rw [HB.out]; exact hn) JN.out.1 PAR.out.1 PAR.out.2 hii MIN.out hl)
          clear LS hl DA MIN
          go_wp2_with fail
          refine L2.out.mono ?_
          rintro e w5 ⟨rfl, s5, r5⟩
          obtain ⟨a3, cap3, hc3, C3⟩ := SW.out j1 w5 JN.out.1 s5
          have C3 := hide C3
          have RR := hide (KK.out.trans RW.out r5)
          have m3 := go_swap hc3
          clear L2 s5 r5 m2 hc2 SW
          go_wp2_with fail
          refine C3.out.mono ?_
          rintro e w6 ⟨rfl, s6, r6⟩
          have X2 : Hid (DownAt key n i0 xs j1 (swp ys i j1) ∧ St (swp ys i j1) w6 ∧ R w w6) := ⟨F.out, s6, KK.out.trans RR.out r6⟩
          have jb : j1 ≤ 100000 := by have := JN.out; omega
          have ji : i < j1 := by have := PAR.out; omega
          clear C3 s6 r6 m3 hc3 RR F JN PAR
          go_wp2
          go_roundw
          case rel => exact ⟨j1, _, by omega, jb, rfl, X2⟩
          case measure => simp [intOf]; omega
end
end Go.Proofs.Ytnmigdcedcmbkaa
