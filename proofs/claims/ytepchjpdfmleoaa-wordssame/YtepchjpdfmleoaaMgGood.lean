/-
  MgGood: 2 parts, one behind the other; what each proves, and under which conditions, its own heading says.
-/
import Derived.Test.YtepchjpdfmleoaaMgWa
import Derived.Deep.DeepCutAuto

/-
  The document's own Good (offertoryref14): what it answers.
-/
namespace Go.Proofs.Ytepchjpdfmleoaa
open Go.RowKit Cn Pn Wn
set_option linter.unusedVariables false

def badB (k frm : Int) : Bool := (wardenB k != decide (frm = 0)) || (!wardenB k && !whoB frm)
def bad2 (c : Wd) : Bool := !(c.parcels.all pcB && c.openings.all ogB) || decide (allN c ≠ hasN c) || decide (256 < c.vector.length) || !donB c.who || !donB (pcL c.kind c.parcels) || !donB (c.openings.map (·.who))
def endB (c : Wd) : Bool :=
  if c.kind = 1 then decide (c.why = 0) && decide (c.cards.length = 1) && decide ((c.cards.map (·.who)).getD 0 0 = c.frm)
  else if c.kind = 8 then decide (1 ≤ c.why) && decide (c.why ≤ 17)
  else decide (c.why = 0) && donB (c.cards.map (·.who))
theorem goodB_eq (c : Wd) (h1 : 1 ≤ c.kind) (h8 : c.kind ≤ 8) : goodB c = if badB c.kind c.frm then false else if bad2 c then false else endB c := by
  unfold goodB badB bad2 endB
  rw [if_neg (by omega)]
def hasL (c : Wd) : List Value := [.int .i64 0, .int .i64 (c.cards.length : Nat), .int .i64 (c.cards.length : Nat), .int .i64 (c.parcels.length : Nat), .int .i64 (c.parcels.length : Nat), .int .i64 (c.vector.length : Nat), .int .i64 (c.who.length : Nat), .int .i64 (c.openings.length : Nat), .int .i64 0]
theorem hasL_get (c : Wd) (k : Nat) (hk : c.kind = (k : Int)) (h1 : 1 ≤ k) (h8 : k ≤ 8) : (hasL c)[k]? = some (.int .i64 (hasN c : Nat)) := by
  have : k = 1 ∨ k = 2 ∨ k = 3 ∨ k = 4 ∨ k = 5 ∨ k = 6 ∨ k = 7 ∨ k = 8 := by omega
  rcases this with rfl | rfl | rfl | rfl | rfl | rfl | rfl | rfl <;> simp [hasL, hasN, hk]

set_option maxRecDepth 100000 in
set_option maxHeartbeats 8000000 in
theorem refGood15_any (k : Nat) (hk1 : 1 ≤ k) (hk8 : k ≤ 8) (frm why : Int) (cards : List Card) (parcels : List Parcel) (vector : List Nat) (who : List Int) (openings : List Opening) (m : WM) (w : World) (F : WordIn w ⟨k, frm, why, cards, parcels, vector, who, openings⟩ m) (hs : cards.length ≤ 100000 ∧ parcels.length ≤ 100000 ∧ vector.length ≤ 100000 ∧ who.length ≤ 100000 ∧ openings.length ≤ 100000) :
    Calls Try.prog 11 #[.agg #[.int .i64 (k : Int), .int .i64 frm, .int .i64 why, .slice m.a1 cards.length m.c1, .slice m.a2 parcels.length m.c2, .slice m.a3 vector.length m.c3, .slice m.a4 who.length m.c4, .slice m.a5 openings.length m.c5]] w fun e w' => e = .returned (.bool (goodB ⟨k, frm, why, cards, parcels, vector, who, openings⟩)) ∧ Old w w' := by
  have HF := hide F
  have HW := hide refwho15_any
  have HS := hide hs
  have K1 := hide hk1
  have K8 := hide hk8
  have GE := hide (goodB_eq ⟨k, frm, why, cards, parcels, vector, who, openings⟩ (by simp only; omega) (by simp only; omega))
  have G0 : Hid (Gd w [.int .i64 (k : Int), .int .i64 frm, .int .i64 why, .slice m.a1 cards.length m.c1, .slice m.a2 parcels.length m.c2, .slice m.a3 vector.length m.c3, .slice m.a4 who.length m.c4, .slice m.a5 openings.length m.c5] _ _ _ [] [] [] _) := Gd.start w [.int .i64 (k : Int), .int .i64 frm, .int .i64 why, .slice m.a1 cards.length m.c1, .slice m.a2 parcels.length m.c2, .slice m.a3 vector.length m.c3, .slice m.a4 who.length m.c4, .slice m.a5 openings.length m.c5]
  have O0 := hide (Old.of_alloc w (.cells #[.int .i64 (k : Int), .int .i64 frm, .int .i64 why, .slice m.a1 cards.length m.c1, .slice m.a2 parcels.length m.c2, .slice m.a3 vector.length m.c3, .slice m.a4 who.length m.c4, .slice m.a5 openings.length m.c5] 29))
  have t1 : decide ((k : Int) < 1) = false := decide_eq_false (by omega)
  have t2 : decide ((8 : Int) < (k : Int)) = false := decide_eq_false (by omega)
  have t2' : decide ((k : Int) > 8) = false := t2
  have t3 : decide (8 < k) = false := decide_eq_false (by omega)
  clear F hs hk1 hk8
  go_enter Try.func11, Try.ntmps11
  go_upto_region 3 with fail
  go_cut [3] from 22 to 34 (fun v wc => v = .bool (wardenB k) ∧ wc = w.alloc (.cells #[.int .i64 (k : Int), .int .i64 frm, .int .i64 why, .slice m.a1 cards.length m.c1, .slice m.a2 parcels.length m.c2, .slice m.a3 vector.length m.c3, .slice m.a4 who.length m.c4, .slice m.a5 openings.length m.c5] 29))
  case first =>
    by_cases k2 : k = 2
    · subst k2
      go_wp2_with fail
      go_meet
      exact ⟨rfl, rfl⟩
    · by_cases k4 : k = 4
      · subst k4
        go_wp2_with fail
        go_meet
        exact ⟨rfl, rfl⟩
      · by_cases k6 : k = 6
        · subst k6
          go_wp2_with fail
          go_meet
          exact ⟨rfl, rfl⟩
        · have u2 : ((k : Int) == 2) = false := by simp; omega
          have u4 : ((k : Int) == 4) = false := by simp; omega
          have u6 : ((k : Int) == 6) = false := by simp; omega
          have E : Hid (wardenB k = false) := by
            show _ = _
            unfold wardenB
            rw [decide_eq_false (by omega), decide_eq_false (by omega), decide_eq_false (by omega)]; rfl
          go_wp2_with fail
          go_meet
          exact ⟨by rw [E.out], rfl⟩
  case rest =>
    obtain ⟨rfl, rfl⟩ := hcut
    clear t1 t2 t2' t3
    go_upto_region 4 with fail
    go_cut [49] from 35 to 49 (fun v wc => v = .bool (badB k frm) ∧ wc = w.alloc (.cells #[.int .i64 (k : Int), .int .i64 frm, .int .i64 why, .slice m.a1 cards.length m.c1, .slice m.a2 parcels.length m.c2, .slice m.a3 vector.length m.c3, .slice m.a4 who.length m.c4, .slice m.a5 openings.length m.c5] 29))
    case first =>
      have BB : Hid (badB k frm = ((wardenB k != decide (frm = 0)) || (!wardenB k && !whoB frm))) := rfl
      generalize wardenB k = wb at *
      have C0 := hide (fun wr : World => HW.out frm wr)
      generalize whoB frm = wf at *
      cases wb
      · by_cases h0 : frm = 0
        · have t0 : (frm == 0) = true := by simpa using h0
          have E : Hid (badB k frm = true) := by rw [Hid, BB.out, decide_eq_true h0]; rfl
          clear BB h0
          go_wp2_with fail
          go_meet
          exact ⟨by rw [E.out], rfl⟩
        · have t0 : (frm == 0) = false := by simpa using h0
          have E : Hid (badB k frm = !wf) := by rw [Hid, BB.out, decide_eq_false h0]; rfl
          clear BB h0
          go_wp2_with fail
          refine (C0.out _).mono ?_
          rintro e w1 ⟨rfl, rfl⟩
          go_wp2_with fail
          go_meet
          exact ⟨by rw [E.out], rfl⟩
      · by_cases h0 : frm = 0
        · have t0 : (frm == 0) = true := by simpa using h0
          have E : Hid (badB k frm = false) := by rw [Hid, BB.out, decide_eq_true h0]; rfl
          clear BB h0
          go_wp2_with fail
          go_meet
          exact ⟨by rw [E.out], rfl⟩
        · have t0 : (frm == 0) = false := by simpa using h0
          have E : Hid (badB k frm = true) := by rw [Hid, BB.out, decide_eq_false h0]; rfl
          clear BB h0
          go_wp2_with fail
          go_meet
          exact ⟨by rw [E.out], rfl⟩
    case rest =>
      obtain ⟨rfl, rfl⟩ := hcut
      rw [show (⟨(k : Int), frm, why, cards, parcels, vector, who, openings⟩ : Wd).kind = (k : Int) from rfl, show (⟨(k : Int), frm, why, cards, parcels, vector, who, openings⟩ : Wd).frm = frm from rfl] at GE
      generalize badB k frm = bb at *
      cases bb
      case true =>
        have E : Hid (goodB ⟨k, frm, why, cards, parcels, vector, who, openings⟩ = false) := by rw [Hid, GE.out]; rfl
        clear GE
        go_wp2
        go_ret
        exact ⟨by rw [E.out]; rfl, O0.out⟩
      have E0 : Hid (goodB ⟨k, frm, why, cards, parcels, vector, who, openings⟩ = if bad2 ⟨k, frm, why, cards, parcels, vector, who, openings⟩ then false else endB ⟨k, frm, why, cards, parcels, vector, who, openings⟩) := GE.out
      clear GE O0
      go_wp2_with fail
      obtain ⟨cws, hcw⟩ : ∃ cws, cws = cards.map (·.who) := ⟨_, rfl⟩
      have HCW : Hid (cws.length = cards.length ∧ ∀ (i : Nat) (x : Card), cards[i]? = some x → cws.take (i + 1) = cws.take i ++ [x.who]) := by
        refine ⟨by rw [hcw]; simp, fun i x hx => ?_⟩
        rw [hcw, List.take_add_one, List.getElem?_map, hx]
        rfl
      have HCE := hide hcw
      clear hcw
      go_loopw [4, 8] (fun v4 vi wr => ∃ i : Nat, i ≤ cards.length ∧ vi = .int .i64 (i : Int) ∧ Hid (Gd w [.int .i64 (k : Int), .int .i64 frm, .int .i64 why, .slice m.a1 cards.length m.c1, .slice m.a2 parcels.length m.c2, .slice m.a3 vector.length m.c3, .slice m.a4 who.length m.c4, .slice m.a5 openings.length m.c5] v4 (.slice (some ⟨w.heap.size + 1 + 1, 0, none⟩) 0 0) (.slice (some ⟨w.heap.size + 1 + 1 + 1, 0, none⟩) 0 0) (cws.take i) [] [] wr)) (fun _ vi _ => cards.length - (intOf vi).toNat)
      case atStart => exact ⟨0, Nat.zero_le _, rfl, G0⟩
      case round =>
        clear G0
        obtain ⟨i, hi, rfl, R⟩ := hrel
        have d3 := R.out.box.cell (i := 3) rfl
        by_cases hl : i < cards.length
        · have t1 : decide ((i : Int) < (cards.length : Int)) = true := by simp; omega
          have t1' : decide (i < cards.length) = true := by simpa using hl
          have q0 : (0 : Int) ≤ i := by omega
          have q1 : (i : Int) < cards.length := by omega
          obtain ⟨b, off, e1, cx, _, _⟩ := (HF.out.mono R.out.old).cards i cards[i] (List.getElem?_eq_getElem hl)
          rw [e1] at d3
          have NX := hide (HCW.out.2 i cards[i] (List.getElem?_eq_getElem hl))
          have iw : wrap64 ((i : Int) + 1) = ((i + 1 : Nat) : Int) := by have := HS.out.1; unfold wrap64; omega
          have LN : Hid ((cws.take i).length + 1 < 1099511627776) := by have := HS.out.1; show _ < _; rw [List.length_take, HCW.out.1]; omega
          have SZ := hide R.out.box.lt
          obtain ⟨x, hx⟩ : ∃ x, x = cards[i].who := ⟨_, rfl⟩
          rw [← hx] at cx NX
          clear hx e1
          go_wp2_with (refine wp_appendZ rfl _ _ rfl (w.heap.size + 1) _ (cws.take i) rfl (R.out.o4.mono (Old.of_alloc _ _)) (some ⟨wr.heap.size, 0, none⟩) 1 1 [x] rfl rfl ((Row.new _ 3 [_]).rd) (by intro h; cases h) LN.out (Nat.le_trans SZ.out (Old.of_alloc _ _).size) ?_; rintro v' w2 ow2 gr2 alt2)
          rw [← NX.out] at ow2
          have R2 := hide ((R.out.mono (Old.of_alloc _ _)).app4 ow2 gr2 alt2)
          clear R ow2 gr2 alt2
          try rw [iw]
          exact ⟨⟨i + 1, by omega, rfl, R2⟩, by simp [intOf]; omega⟩
        · obtain rfl : i = cards.length := by omega
          have t1 : decide ((cards.length : Int) < (cards.length : Int)) = false := by simp
          have t1' : decide (cards.length < cards.length) = false := by simp
          rw [List.take_of_length_le (by rw [HCW.out.1]; exact Nat.le_refl _)] at R
          clear hl hi
          go_wp2_with fail
          clear d3
          obtain ⟨pws, hpw⟩ : ∃ pws, pws = pcL k parcels := ⟨_, rfl⟩
          have HPW : Hid (pws.length = parcels.length ∧ ∀ (i : Nat) (x : Parcel), parcels[i]? = some x → pws.take (i + 1) = pws.take i ++ [if (k : Int) = 3 then x.to else x.frm]) := by
            refine ⟨by rw [hpw]; simp [pcL], fun i x hx => ?_⟩
            rw [hpw]
            unfold pcL
            rw [List.take_add_one, List.getElem?_map, hx]
            rfl
          have HPE := hide hpw
          clear hpw
          go_loopw [5, 7, 9] (fun v5 vf vi wr => ∃ (i : Nat) (fine : Bool), i ≤ parcels.length ∧ vi = .int .i64 (i : Int) ∧ vf = .bool fine ∧ Hid ((parcels.take i).all pcB = fine) ∧ Hid (Gd w [.int .i64 (k : Int), .int .i64 frm, .int .i64 why, .slice m.a1 cards.length m.c1, .slice m.a2 parcels.length m.c2, .slice m.a3 vector.length m.c3, .slice m.a4 who.length m.c4, .slice m.a5 openings.length m.c5] u4 v5 (.slice (some ⟨w.heap.size + 1 + 1 + 1, 0, none⟩) 0 0) cws (pws.take i) [] wr)) (fun _ _ vi _ => parcels.length - (intOf vi).toNat)
          case atStart => exact ⟨0, true, Nat.zero_le _, rfl, rfl, rfl, R⟩
          case round =>
            clear R
            rename_i wr0
            obtain ⟨i, fine, hi, rfl, rfl, FI, R⟩ := hrel
            have d4 := R.out.box.cell (i := 4) rfl
            by_cases hl : i < parcels.length
            · have t1 : decide ((i : Int) < (parcels.length : Int)) = true := by simp; omega
              have t1' : decide (i < parcels.length) = true := by simpa using hl
              have q0 : (0 : Int) ≤ i := by omega
              have q1 : (i : Int) < parcels.length := by omega
              obtain ⟨⟨b, off, e1, cx, cy, cz⟩, _⟩ := (HF.out.mono R.out.old).parcels i parcels[i] (List.getElem?_eq_getElem hl)
              rw [e1] at d4
              have NX := hide (HPW.out.2 i parcels[i] (List.getElem?_eq_getElem hl))
              have PB : Hid ((parcels.take (i + 1)).all pcB = (fine && pcB parcels[i])) := by
                show _ = _
                rw [List.take_add_one, List.getElem?_eq_getElem hl, Option.toList_some, List.all_append, FI.out]
                simp
              have DL : Hid (parcels[i].data.length ≤ 9223372036854775807) := (HF.out.parcelB _ (List.getElem_mem hl)).2.2.2
              have iw : wrap64 ((i : Int) + 1) = ((i + 1 : Nat) : Int) := by have := HS.out.2.1; unfold wrap64; omega
              have LN : Hid ((pws.take i).length + 1 < 1099511627776) := by have := HS.out.2.1; show _ < _; rw [List.length_take, HPW.out.1]; omega
              have SZ := hide R.out.box.lt
              obtain ⟨x, hx⟩ : ∃ x, x = parcels[i] := ⟨_, rfl⟩
              rw [← hx] at cx cy cz NX PB DL
              obtain ⟨xf, xt, xd⟩ := x
              simp only at cx cy cz NX DL
              have e10 := (rowN (w := wr) (g := wr.heap.size) 50 [.int .i64 xf, .int .i64 xt, .slice (m.pa i) xd.length (m.pc i)] rfl)
              have c0 := e10.cell (i := 0) rfl
              have c1 := e10.cell (i := 1) rfl
              have c2 := e10.cell (i := 2) rfl
              have d0 := (R.out.mono (Old.of_alloc wr (.cells #[.int .i64 xf, .int .i64 xt, .slice (m.pa i) xd.length (m.pc i)] 50))).box.cell (i := 0) rfl
              clear hx e1 FI e10
              obtain ⟨fine2, hf2⟩ : ∃ f, f = (fine && pcB ⟨xf, xt, xd⟩) := ⟨_, rfl⟩
              rw [← hf2] at PB
              have H2 := hide hf2
              clear hf2
              go_upto_region 16 with fail
              go_cut [7] from 81 to 97 (fun v wc => v = .bool fine2 ∧ wc = wr.alloc (.cells #[.int .i64 xf, .int .i64 xt, .slice (m.pa i) xd.length (m.pc i)] 50))
              case first =>
                have PE : Hid (fine2 = (fine && (whoB xf && whoB xt && decide (xd.length ≤ 64)))) := H2.out
                clear H2 PB
                have C1 := hide (fun wr : World => HW.out xf wr)
                have C2 := hide (fun wr : World => HW.out xt wr)
                generalize whoB xf = bf at *
                generalize whoB xt = bt at *
                cases fine
                · go_wp2_with fail
                  go_meet
                  exact ⟨by rw [PE.out]; rfl, rfl⟩
                · cases bf
                  · go_wp2_with fail
                    refine (C1.out _).mono ?_
                    rintro e w1 ⟨rfl, rfl⟩
                    go_wp2_with fail
                    go_meet
                    exact ⟨by rw [PE.out]; rfl, rfl⟩
                  · cases bt
                    · go_wp2_with fail
                      refine (C1.out _).mono ?_
                      rintro e w1 ⟨rfl, rfl⟩
                      go_wp2_with fail
                      refine (C2.out _).mono ?_
                      rintro e w1 ⟨rfl, rfl⟩
                      go_wp2_with fail
                      go_meet
                      exact ⟨by rw [PE.out]; rfl, rfl⟩
                    · by_cases hd : xd.length ≤ 64
                      · have t3 : decide ((xd.length : Int) ≤ 64) = true := decide_eq_true (by omega)
                        have t3' : decide (xd.length ≤ 64) = true := decide_eq_true hd
                        have E : Hid (fine2 = true) := by rw [Hid, PE.out, t3']; rfl
                        clear PE
                        go_wp2_with fail
                        refine (C1.out _).mono ?_
                        rintro e w1 ⟨rfl, rfl⟩
                        go_wp2_with fail
                        refine (C2.out _).mono ?_
                        rintro e w1 ⟨rfl, rfl⟩
                        go_wp2_with fail
                        go_meet
                        exact ⟨by rw [E.out], rfl⟩
                      · have t3 : decide ((xd.length : Int) ≤ 64) = false := decide_eq_false (by omega)
                        have t3' : decide (xd.length ≤ 64) = false := decide_eq_false hd
                        have E : Hid (fine2 = false) := by rw [Hid, PE.out, t3']; rfl
                        clear PE
                        go_wp2_with fail
                        refine (C1.out _).mono ?_
                        rintro e w1 ⟨rfl, rfl⟩
                        go_wp2_with fail
                        refine (C2.out _).mono ?_
                        rintro e w1 ⟨rfl, rfl⟩
                        go_wp2_with fail
                        go_meet
                        exact ⟨by rw [E.out], rfl⟩
              case rest =>
                obtain ⟨rfl, rfl⟩ := hcut
                have FX : Hid ((parcels.take (i + 1)).all pcB = fine2) := PB.out
                clear PB H2
                by_cases k3 : k = 3
                · have t5 : ((k : Int) == 3) = true := by simp; omega
                  rw [if_pos (by omega)] at NX
                  clear k3
                  go_wp2_with (refine wp_appendZ rfl _ _ rfl (w.heap.size + 1) _ (pws.take i) rfl ((R.out.o5.mono (Old.of_alloc _ _)).mono (Old.of_alloc _ _)) (some ⟨wr.heap.size + 1, 0, none⟩) 1 1 [xt] rfl rfl ((rowN 3 [_] (by rw [World.size_alloc])).rd) (by intro h; cases h) LN.out (Nat.le_trans SZ.out (Nat.le_trans (Old.of_alloc _ _).size (Old.of_alloc _ _).size)) ?_; rintro v' w2 ow2 gr2 alt2)
                  rw [← NX.out] at ow2
                  have R2 := hide (((R.out.mono (Old.of_alloc _ _)).mono (Old.of_alloc _ _)).app5 ow2 gr2 alt2)
                  clear R ow2 gr2 alt2
                  try rw [iw]
                  exact ⟨⟨i + 1, _, by omega, rfl, rfl, FX, R2⟩, by simp [intOf]; omega⟩
                · have t5 : ((k : Int) == 3) = false := by simp; omega
                  rw [if_neg (by omega)] at NX
                  clear k3
                  go_wp2_with (refine wp_appendZ rfl _ _ rfl (w.heap.size + 1) _ (pws.take i) rfl ((R.out.o5.mono (Old.of_alloc _ _)).mono (Old.of_alloc _ _)) (some ⟨wr.heap.size + 1, 0, none⟩) 1 1 [xf] rfl rfl ((rowN 3 [_] (by rw [World.size_alloc])).rd) (by intro h; cases h) LN.out (Nat.le_trans SZ.out (Nat.le_trans (Old.of_alloc _ _).size (Old.of_alloc _ _).size)) ?_; rintro v' w2 ow2 gr2 alt2)
                  rw [← NX.out] at ow2
                  have R2 := hide (((R.out.mono (Old.of_alloc _ _)).mono (Old.of_alloc _ _)).app5 ow2 gr2 alt2)
                  clear R ow2 gr2 alt2
                  try rw [iw]
                  exact ⟨⟨i + 1, _, by omega, rfl, rfl, FX, R2⟩, by simp [intOf]; omega⟩
            · obtain rfl : i = parcels.length := by omega
              have t1 : decide ((parcels.length : Int) < (parcels.length : Int)) = false := by simp
              have t1' : decide (parcels.length < parcels.length) = false := by simp
              rw [List.take_of_length_le (by rw [HPW.out.1]; exact Nat.le_refl _)] at R
              rw [List.take_of_length_le (Nat.le_refl _)] at FI
              clear hl hi
              go_wp2_with fail
              clear d4
              obtain ⟨ows, how⟩ : ∃ ows, ows = openings.map (·.who) := ⟨_, rfl⟩
              have HOW : Hid (ows.length = openings.length ∧ ∀ (i : Nat) (x : Opening), openings[i]? = some x → ows.take (i + 1) = ows.take i ++ [x.who]) := by
                refine ⟨by rw [how]; simp, fun i x hx => ?_⟩
                rw [how, List.take_add_one, List.getElem?_map, hx]
                rfl
              have HOE := hide how
              clear how
              go_loopw [6, 7, 11] (fun v6 vf vi wr => ∃ (i : Nat) (fn : Bool), i ≤ openings.length ∧ vi = .int .i64 (i : Int) ∧ vf = .bool fn ∧ Hid ((parcels.all pcB && (openings.take i).all ogB) = fn) ∧ Hid (Gd w [.int .i64 (k : Int), .int .i64 frm, .int .i64 why, .slice m.a1 cards.length m.c1, .slice m.a2 parcels.length m.c2, .slice m.a3 vector.length m.c3, .slice m.a4 who.length m.c4, .slice m.a5 openings.length m.c5] u4 u5 v6 cws pws (ows.take i) wr)) (fun _ _ vi _ => openings.length - (intOf vi).toNat)
              case atStart => exact ⟨0, fine, Nat.zero_le _, rfl, rfl, by rw [Hid, FI.out]; simp, R⟩
              case round =>
                clear R FI
                rename_i wr1
                obtain ⟨i, fn, hi, rfl, rfl, FI, R⟩ := hrel
                have d7 := R.out.box.cell (i := 7) rfl
                by_cases hl : i < openings.length
                · have t1 : decide ((i : Int) < (openings.length : Int)) = true := by simp; omega
                  have t1' : decide (i < openings.length) = true := by simpa using hl
                  have q0 : (0 : Int) ≤ i := by omega
                  have q1 : (i : Int) < openings.length := by omega
                  obtain ⟨⟨b, off, e1, cx, cy, cz⟩, _⟩ := (HF.out.mono R.out.old).openings i openings[i] (List.getElem?_eq_getElem hl)
                  rw [e1] at d7
                  have NX := hide (HOW.out.2 i openings[i] (List.getElem?_eq_getElem hl))
                  have PB : Hid ((parcels.all pcB && (openings.take (i + 1)).all ogB) = (fn && ogB openings[i])) := by
                    show _ = _
                    rw [List.take_add_one, List.getElem?_eq_getElem hl, Option.toList_some, List.all_append, ← FI.out]
                    simp [Bool.and_assoc]
                  have DL : Hid (openings[i].vals.length ≤ 9223372036854775807) := (HF.out.openingB _ (List.getElem_mem hl)).2.2
                  have iw : wrap64 ((i : Int) + 1) = ((i + 1 : Nat) : Int) := by have := HS.out.2.2.2.2; unfold wrap64; omega
                  have LN : Hid ((ows.take i).length + 1 < 1099511627776) := by have := HS.out.2.2.2.2; show _ < _; rw [List.length_take, HOW.out.1]; omega
                  have SZ := hide R.out.box.lt
                  obtain ⟨x, hx⟩ : ∃ x, x = openings[i] := ⟨_, rfl⟩
                  rw [← hx] at cx cy cz NX PB DL
                  obtain ⟨xw, xo, xv⟩ := x
                  simp only at cx cy cz NX DL
                  obtain ⟨fn2, hf2⟩ : ∃ f, f = (fn && ogB ⟨xw, xo, xv⟩) := ⟨_, rfl⟩
                  rw [← hf2] at PB
                  have H2 := hide hf2
                  clear hf2 hx e1 FI
                  go_upto_region 23 with fail
                  go_cut [7] from 118 to 128 (fun v wc => v = .bool fn2 ∧ wc = wr)
                  case first =>
                    have PE : Hid (fn2 = (fn && decide (xv.length ≤ 5))) := H2.out
                    clear H2 PB
                    cases fn
                    · go_wp2_with fail
                      go_meet
                      exact ⟨by rw [PE.out]; rfl, rfl⟩
                    · by_cases hd : xv.length ≤ 5
                      · have t3 : decide ((xv.length : Int) ≤ 5) = true := decide_eq_true (by omega)
                        have t3' : decide (xv.length ≤ 5) = true := decide_eq_true hd
                        have E : Hid (fn2 = true) := by rw [Hid, PE.out, t3']; rfl
                        clear PE
                        go_wp2_with fail
                        go_meet
                        exact ⟨by rw [E.out], rfl⟩
                      · have t3 : decide ((xv.length : Int) ≤ 5) = false := decide_eq_false (by omega)
                        have t3' : decide (xv.length ≤ 5) = false := decide_eq_false hd
                        have E : Hid (fn2 = false) := by rw [Hid, PE.out, t3']; rfl
                        clear PE
                        go_wp2_with fail
                        go_meet
                        exact ⟨by rw [E.out], rfl⟩
                  case rest =>
                    obtain ⟨rfl, rfl⟩ := hcut
                    have FX : Hid ((parcels.all pcB && (openings.take (i + 1)).all ogB) = fn2) := PB.out
                    clear PB H2
                    go_wp2_with (refine wp_appendZ rfl _ _ rfl (w.heap.size + 1) _ (ows.take i) rfl (R.out.o6.mono (Old.of_alloc _ _)) (some ⟨wc.heap.size, 0, none⟩) 1 1 [xw] rfl rfl ((Row.new _ 3 [_]).rd) (by intro h; cases h) LN.out (Nat.le_trans SZ.out (Old.of_alloc _ _).size) ?_; rintro v' w2 ow2 gr2 alt2)
                    rw [← NX.out] at ow2
                    have R2 := hide ((R.out.mono (Old.of_alloc _ _)).app6 ow2 gr2 alt2)
                    clear R ow2 gr2 alt2
                    try rw [iw]
                    exact ⟨⟨i + 1, _, by omega, rfl, rfl, FX, R2⟩, by simp [intOf]; omega⟩
                · obtain rfl : i = openings.length := by omega
                  have t1 : decide ((openings.length : Int) < (openings.length : Int)) = false := by simp
                  have t1' : decide (openings.length < openings.length) = false := by simp
                  rw [List.take_of_length_le (by rw [HOW.out.1]; exact Nat.le_refl _)] at R
                  rw [List.take_of_length_le (Nat.le_refl _)] at FI
                  clear hl hi
                  go_upto_region 25 with fail
                  clear d7
                  have d3 := R.out.box.cell (i := 3) rfl
                  have d4 := R.out.box.cell (i := 4) rfl
                  have d5 := R.out.box.cell (i := 5) rfl
                  have d6 := R.out.box.cell (i := 6) rfl
                  have d7 := R.out.box.cell (i := 7) rfl
                  obtain ⟨c, hc⟩ : ∃ c : Wd, c = ⟨k, frm, why, cards, parcels, vector, who, openings⟩ := ⟨_, rfl⟩
                  have HCC := hide hc
                  have HA : Hid (allN c = cards.length + parcels.length + vector.length + who.length + openings.length) := by rw [hc]; rfl
                  rw [← hc] at E0
                  clear hc
                  go_cut [12] from 138 to 159 (fun v wc => v = .pointer (some ⟨wr.heap.size, 0, none⟩) ∧ Hid (Gd w [.int .i64 (k : Int), .int .i64 frm, .int .i64 why, .slice m.a1 cards.length m.c1, .slice m.a2 parcels.length m.c2, .slice m.a3 vector.length m.c3, .slice m.a4 who.length m.c4, .slice m.a5 openings.length m.c5] u4 u5 u6 cws pws ows wc) ∧ Hid (Row wc wr.heap.size 54 (hasL c)))
                  case first =>
                    have HH : Hid (hasL c = [.int .i64 0, .int .i64 (cards.length : Nat), .int .i64 (cards.length : Nat), .int .i64 (parcels.length : Nat), .int .i64 (parcels.length : Nat), .int .i64 (vector.length : Nat), .int .i64 (who.length : Nat), .int .i64 (openings.length : Nat), .int .i64 0]) := by rw [Hid, HCC.out]; rfl
                    have R0 := hide (Row.new wr 54 [.int .i64 0, .int .i64 0, .int .i64 0, .int .i64 0, .int .i64 0, .int .i64 0, .int .i64 0, .int .i64 0, .int .i64 0])
                    go_wp2_with (refine wp_store_whole rfl 54 _ _ rfl wr.heap.size rfl [.int .i64 0, .int .i64 (cards.length : Nat), .int .i64 (cards.length : Nat), .int .i64 (parcels.length : Nat), .int .i64 (parcels.length : Nat), .int .i64 (vector.length : Nat), .int .i64 (who.length : Nat), .int .i64 (openings.length : Nat), .int .i64 0] rfl R0.out (by kernel_rfl) rfl (by intro v hv; simp at hv; rcases hv with rfl | rfl | rfl | rfl | rfl | rfl | rfl <;> rfl) ?_; rintro w9 h9
                                 have R9 : Hid (Row w9 wr.heap.size 54 (hasL c)) := by rw [Hid, HH.out, h9]; exact R0.out.whole _
                                 have G9 : Hid (wr.grownBy w9 Option.none) := by
                                   rw [Hid, h9]
                                   have g := grown_setRow (wr.alloc (.cells #[.int .i64 0, .int .i64 0, .int .i64 0, .int .i64 0, .int .i64 0, .int .i64 0, .int .i64 0, .int .i64 0, .int .i64 0] 54)) wr.heap.size #[.int .i64 0, .int .i64 (cards.length : Nat), .int .i64 (cards.length : Nat), .int .i64 (parcels.length : Nat), .int .i64 (parcels.length : Nat), .int .i64 (vector.length : Nat), .int .i64 (who.length : Nat), .int .i64 (openings.length : Nat), .int .i64 0]
                                   have o := Old.of_alloc wr (.cells #[.int .i64 0, .int .i64 0, .int .i64 0, .int .i64 0, .int .i64 0, .int .i64 0, .int .i64 0, .int .i64 0, .int .i64 0] 54)
                                   exact grown_old ((Old.refl wr).trans (o.grown g (Nat.le_refl _))) _
                                 clear h9)
                    go_meet
                    have o9 : Old wr w9 := ⟨G9.out.os, G9.out.tape, G9.out.output, G9.out.size, fun i hi => G9.out.block i hi (by simp)⟩
                    exact ⟨rfl, R.out.mono o9, R9⟩
                  case rest =>
                    obtain ⟨rfl, R2, RH⟩ := hcut
                    clear d3 d4 d5 d6 d7 R
                    have d0 := R2.out.box.cell (i := 0) rfl
                    have d3 := R2.out.box.cell (i := 3) rfl
                    have d4 := R2.out.box.cell (i := 4) rfl
                    have d5 := R2.out.box.cell (i := 5) rfl
                    have d6 := R2.out.box.cell (i := 6) rfl
                    have d7 := R2.out.box.cell (i := 7) rfl
                    go_upto_region 26 with fail
                    go_cut [13] from 160 to 178 (fun v wx => v = .int .i64 (allN c : Nat) ∧ wx = wc)
                    case first =>
                      obtain ⟨s1, s2, s3, s4, s5⟩ := HS.out
                      have x1 : wrap64 ((cards.length : Int) + (parcels.length : Int)) = (cards.length : Int) + (parcels.length : Int) := by unfold wrap64; omega
                      have x2 : wrap64 ((cards.length : Int) + (parcels.length : Int) + (vector.length : Int)) = (cards.length : Int) + (parcels.length : Int) + (vector.length : Int) := by unfold wrap64; omega
                      have x3 : wrap64 ((cards.length : Int) + (parcels.length : Int) + (vector.length : Int) + (who.length : Int)) = (cards.length : Int) + (parcels.length : Int) + (vector.length : Int) + (who.length : Int) := by unfold wrap64; omega
                      have x4 : wrap64 ((cards.length : Int) + (parcels.length : Int) + (vector.length : Int) + (who.length : Int) + (openings.length : Int)) = (cards.length : Int) + (parcels.length : Int) + (vector.length : Int) + (who.length : Int) + (openings.length : Int) := by unfold wrap64; omega
                      go_wp2_with fail
                      go_meet
                      exact ⟨by rw [HA.out]; congr 1, rfl⟩
                    case rest =>
                      obtain ⟨rfl, rfl⟩ := hcut
                      have B2 : Hid (bad2 c = (!fn || decide (allN c ≠ hasN c) || decide (256 < vector.length) || !donB who || !donB pws || !donB ows)) := by
                        rw [Hid, ← FI.out, HPE.out, HOE.out, HCC.out]; rfl
                      have ch := RH.out.cell (i := k) (hasL_get c k (by rw [HCC.out]) K1.out K8.out)
                      obtain ⟨a5, c5, e5, hc5, rd5⟩ := R2.out.o5.rd
                      obtain ⟨a6, c6, e6, hc6, rd6⟩ := R2.out.o6.rd
                      obtain ⟨a4, c4, e4, hc4, rd4⟩ := R2.out.o4.rd
                      subst e5 e6 e4
                      have C1 := hide (fun (wx : World) (o : Old w wx) => refrising15_any m.a4 who.length m.c4 who (by have := HS.out; omega) rfl wx (HF.out.mono o).who)
                      have C2 := hide (fun (wx : World) (o : Old wc wx) => refrising15_any a5 pws.length c5 pws (by have := HPW.out.1; have := HS.out; omega) rfl wx (rd5.mono o))
                      have C3 := hide (fun (wx : World) (o : Old wc wx) => refrising15_any a6 ows.length c6 ows (by have := HOW.out.1; have := HS.out; omega) rfl wx (rd6.mono o))
                      have C4 := hide (fun (wx : World) (o : Old wc wx) => refrising15_any a4 cws.length c4 cws (by have := HCW.out.1; have := HS.out; omega) rfl wx (rd4.mono o))
                      have RD4 := hide rd4
                      clear RH FI rd5 rd6 rd4 hc4 hc5 hc6 HPW HOW HPE HOE
                      have k0 : (0 : Int) ≤ (k : Int) := by omega
                      have k9 : (k : Int) < 9 := by have := K8.out; omega
                      go_upto_region 27 with fail
                      go_cut [210] from 179 to 210 (fun v wx => v = .bool (bad2 c) ∧ Hid (Old wc wx))
                      case first =>
                        generalize hasN c = hN at *
                        generalize allN c = aN at *
                        generalize donB who = b1 at *
                        generalize donB pws = b2 at *
                        generalize donB ows = b3 at *
                        cases fn
                        · have E : Hid (bad2 c = true) := by rw [Hid, B2.out]; rfl
                          clear B2
                          go_wp2_with fail
                          go_meet
                          exact ⟨by rw [E.out], Old.refl _⟩
                        · by_cases ha : aN = hN
                          · have u1 : ((aN : Int) != (hN : Int)) = false := by simp; omega
                            have u1' : (aN != hN) = false := by simpa using ha
                            have n1 : decide (aN ≠ hN) = false := decide_eq_false (fun h => h ha)
                            rw [n1] at B2
                            clear n1 ha
                            by_cases hv : 256 < vector.length
                            · have u2 : decide ((256 : Int) < (vector.length : Int)) = true := decide_eq_true (by omega)
                              have u2' : decide ((vector.length : Int) > 256) = true := u2
                              have u2'' : decide (256 < vector.length) = true := decide_eq_true hv
                              have E : Hid (bad2 c = true) := by rw [Hid, B2.out, u2'']; rfl
                              clear B2 hv
                              go_wp2_with fail
                              go_meet
                              exact ⟨by rw [E.out], Old.refl _⟩
                            · have u2 : decide ((256 : Int) < (vector.length : Int)) = false := decide_eq_false (by omega)
                              have u2' : decide ((vector.length : Int) > 256) = false := u2
                              have u2'' : decide (256 < vector.length) = false := decide_eq_false hv
                              rw [u2''] at B2
                              clear hv
                              cases b1
                              · have E : Hid (bad2 c = true) := by rw [Hid, B2.out]; rfl
                                clear B2
                                go_wp2_with fail
                                refine (C1.out _ R2.out.old).mono ?_
                                rintro e w1 ⟨rfl, o1⟩
                                have O1 := hide o1
                                clear o1
                                go_wp2_with fail
                                go_meet
                                exact ⟨by rw [E.out], O1⟩
                              · cases b2
                                · have E : Hid (bad2 c = true) := by rw [Hid, B2.out]; rfl
                                  clear B2
                                  go_wp2_with fail
                                  refine (C1.out _ R2.out.old).mono ?_
                                  rintro e w1 ⟨rfl, o1⟩
                                  have O1 := hide o1
                                  clear o1
                                  go_wp2_with fail
                                  refine (C2.out _ O1.out).mono ?_
                                  rintro e w2 ⟨rfl, o2⟩
                                  have O2 := hide (O1.out.trans o2)
                                  clear o2
                                  go_wp2_with fail
                                  go_meet
                                  exact ⟨by rw [E.out], O2⟩
                                · have E : Hid (bad2 c = !b3) := by rw [Hid, B2.out]; rfl
                                  clear B2
                                  go_wp2_with fail
                                  refine (C1.out _ R2.out.old).mono ?_
                                  rintro e w1 ⟨rfl, o1⟩
                                  have O1 := hide o1
                                  clear o1
                                  go_wp2_with fail
                                  refine (C2.out _ O1.out).mono ?_
                                  rintro e w2 ⟨rfl, o2⟩
                                  have O2 := hide (O1.out.trans o2)
                                  clear o2
                                  go_wp2_with fail
                                  refine (C3.out _ O2.out).mono ?_
                                  rintro e w3 ⟨rfl, o3⟩
                                  have O3 := hide (O2.out.trans o3)
                                  clear o3
                                  go_wp2_with fail
                                  go_meet
                                  exact ⟨by rw [E.out], O3⟩
                          · have u1 : ((aN : Int) != (hN : Int)) = true := by simp; omega
                            have u1' : (aN != hN) = true := by simpa using ha
                            have E : Hid (bad2 c = true) := by rw [Hid, B2.out, decide_eq_true ha]; rfl
                            clear B2 ha
                            go_wp2_with fail
                            go_meet
                            exact ⟨by rw [E.out], Old.refl _⟩
                      case rest =>
                        obtain ⟨rfl, O3⟩ := hcut
                        clear B2 d0 d3 d4 d5 d6 d7 ch C1 C2 C3 HA
                        have R3 := hide (R2.out.mono O3.out)
                        have d0 := R3.out.box.cell (i := 0) rfl
                        have d1 := R3.out.box.cell (i := 1) rfl
                        have d2 := R3.out.box.cell (i := 2) rfl
                        have OO := hide R3.out.old
                        cases hb : bad2 c
                        case true =>
                          have E : Hid (goodB c = false) := by rw [Hid, E0.out, hb]; rfl
                          clear E0
                          go_wp2
                          go_ret
                          exact ⟨by rw [← HCC.out, E.out]; rfl, OO.out⟩
                        case false =>
                          have E1 : Hid (goodB c = endB c) := by rw [Hid, E0.out, hb]; rfl
                          clear E0 hb
                          by_cases hk1 : k = 1
                          · have v1 : ((k : Int) == 1) = true := by simp; omega
                            have E2 : Hid (goodB c = (decide (why = 0) && decide (cws.length = 1) && decide (cws.getD 0 0 = frm))) := by
                              rw [Hid, E1.out, HCC.out]
                              unfold endB
                              simp only
                              rw [if_pos (by omega), HCE.out]
                              simp
                            clear E1 hk1
                            by_cases y1 : why = 0
                            · have b1 : (why == 0) = true := by simpa using y1
                              rw [decide_eq_true y1, Bool.true_and] at E2
                              clear y1
                              by_cases y2 : cws.length = 1
                              · have b2 : ((cws.length : Int) == 1) = true := by simp; omega
                                have b2' : (cws.length == 1) = true := by simpa using y2
                                have q0 : (0 : Int) < (cws.length : Int) := by omega
                                have q1 : 0 < cws.length := by omega
                                obtain ⟨bb, off, rfl, cz⟩ := rd_int (RD4.out.mono O3.out) (i := 0) q1
                                rw [decide_eq_true y2, Bool.true_and] at E2
                                have cz' : wc.cell? ⟨bb, off, none⟩ = some (.int .i64 (cws.getD 0 0)) := cz
                                generalize cws.getD 0 0 = z at *
                                clear y2
                                by_cases y3 : z = frm
                                · have b3 : (z == frm) = true := by simpa using y3
                                  have E : Hid (goodB c = true) := by rw [Hid, E2.out, decide_eq_true y3]
                                  clear E2 y3
                                  go_wp2_with fail
                                  go_quiet (fail)
                                  go_wp2
                                  go_ret
                                  exact ⟨by rw [← HCC.out, E.out]; rfl, OO.out.drewN _⟩
                                · have b3 : (z == frm) = false := by simpa using y3
                                  have E : Hid (goodB c = false) := by rw [Hid, E2.out, decide_eq_false y3]
                                  clear E2 y3
                                  go_wp2_with fail
                                  go_quiet (fail)
                                  go_wp2
                                  go_ret
                                  exact ⟨by rw [← HCC.out, E.out]; rfl, OO.out.drewN _⟩
                              · have b2 : ((cws.length : Int) == 1) = false := by simp; omega
                                have b2' : (cws.length == 1) = false := by simpa using y2
                                have E : Hid (goodB c = false) := by rw [Hid, E2.out, decide_eq_false y2]; rfl
                                clear E2 y2
                                go_wp2_with fail
                                go_quiet (fail)
                                go_wp2
                                go_ret
                                exact ⟨by rw [← HCC.out, E.out]; rfl, OO.out.drewN _⟩
                            · have b1 : (why == 0) = false := by simpa using y1
                              have E : Hid (goodB c = false) := by rw [Hid, E2.out, decide_eq_false y1]; rfl
                              clear E2 y1
                              go_wp2_with fail
                              go_quiet (fail)
                              go_wp2
                              go_ret
                              exact ⟨by rw [← HCC.out, E.out]; rfl, OO.out.drewN _⟩
                          · have v1 : ((k : Int) == 1) = false := by simp; omega
                            by_cases hk8 : k = 8
                            · have v2 : ((k : Int) == 8) = true := by simp; omega
                              have E2 : Hid (goodB c = (decide (1 ≤ why) && decide (why ≤ 17))) := by
                                rw [Hid, E1.out, HCC.out]
                                unfold endB
                                simp only
                                rw [if_neg (by omega), if_pos (by omega)]
                              clear E1 hk1 hk8
                              by_cases y1 : 1 ≤ why
                              · have b1 : decide (1 ≤ why) = true := decide_eq_true y1
                                have b1' : decide (why ≥ 1) = true := b1
                                rw [b1, Bool.true_and] at E2
                                clear y1
                                go_wp2
                                go_ret
                                exact ⟨by rw [← HCC.out, E2.out]; rfl, OO.out⟩
                              · have b1 : decide (1 ≤ why) = false := decide_eq_false y1
                                have b1' : decide (why ≥ 1) = false := b1
                                rw [b1, Bool.false_and] at E2
                                clear y1
                                go_wp2
                                go_ret
                                exact ⟨by rw [← HCC.out, E2.out]; rfl, OO.out⟩
                            · have v2 : ((k : Int) == 8) = false := by simp; omega
                              have E2 : Hid (goodB c = (decide (why = 0) && donB cws)) := by
                                rw [Hid, E1.out, HCC.out]
                                unfold endB
                                simp only
                                rw [if_neg (by omega), if_neg (by omega), HCE.out]
                              clear E1 hk1 hk8
                              by_cases y1 : why = 0
                              · have b1 : (why == 0) = true := by simpa using y1
                                rw [decide_eq_true y1, Bool.true_and] at E2
                                clear y1
                                go_wp2_with fail
                                refine (C4.out _ O3.out).mono ?_
                                rintro e w4 ⟨rfl, o4⟩
                                have O4 := hide (OO.out.trans o4)
                                clear o4
                                go_wp2
                                go_ret
                                exact ⟨by rw [← HCC.out, E2.out]; rfl, O4.out⟩
                              · have b1 : (why == 0) = false := by simpa using y1
                                rw [decide_eq_false y1, Bool.false_and] at E2
                                clear y1
                                go_wp2
                                go_ret
                                exact ⟨by rw [← HCC.out, E2.out]; rfl, OO.out⟩
end Go.Proofs.Ytepchjpdfmleoaa

/-
  The document's own Good of any word.
-/
namespace Go.Proofs.Ytepchjpdfmleoaa
open Go.RowKit Cn Pn Wn
set_option linter.unusedVariables false

set_option maxRecDepth 100000 in
set_option maxHeartbeats 1000000 in
theorem refGood15_out (kd frm why : Int) (hk : kd < 1 ∨ 8 < kd) (cards : List Card) (parcels : List Parcel) (vector : List Nat) (who : List Int) (openings : List Opening) (m : WM) (w : World) :
    Calls Try.prog 11 #[.agg #[.int .i64 kd, .int .i64 frm, .int .i64 why, .slice m.a1 cards.length m.c1, .slice m.a2 parcels.length m.c2, .slice m.a3 vector.length m.c3, .slice m.a4 who.length m.c4, .slice m.a5 openings.length m.c5]] w fun e w' => e = .returned (.bool false) ∧ Old w w' := by
  have O0 := hide (Old.of_alloc w (.cells #[.int .i64 kd, .int .i64 frm, .int .i64 why, .slice m.a1 cards.length m.c1, .slice m.a2 parcels.length m.c2, .slice m.a3 vector.length m.c3, .slice m.a4 who.length m.c4, .slice m.a5 openings.length m.c5] 29))
  by_cases h1 : kd < 1
  · have t1 : decide (kd < 1) = true := decide_eq_true h1
    clear hk h1
    go_enter Try.func11, Try.ntmps11
    go_wp2
    go_ret
    exact ⟨rfl, O0.out⟩
  · have t1 : decide (kd < 1) = false := decide_eq_false h1
    have h2 : 8 < kd := by omega
    have t2 : decide ((8 : Int) < kd) = true := decide_eq_true h2
    have t2' : decide (kd > 8) = true := t2
    clear hk h1 h2
    go_enter Try.func11, Try.ntmps11
    go_wp2
    go_ret
    exact ⟨rfl, O0.out⟩
/-- Of any word whose lists are not too long. -/
theorem refGood15_all (c : Wd) (m : WM) (w : World) (F : WordIn w c m) (hs : c.cards.length ≤ 100000 ∧ c.parcels.length ≤ 100000 ∧ c.vector.length ≤ 100000 ∧ c.who.length ≤ 100000 ∧ c.openings.length ≤ 100000) :
    Calls Try.prog 11 #[.agg (wdc c m).toArray] w fun e w' => e = .returned (.bool (goodB c)) ∧ Old w w' := by
  obtain ⟨kd, frm, why, cards, parcels, vector, who, openings⟩ := c
  by_cases hk : kd < 1 ∨ 8 < kd
  · have E : goodB ⟨kd, frm, why, cards, parcels, vector, who, openings⟩ = false := by
      unfold goodB
      rw [if_pos hk]
    rw [E]
    exact refGood15_out kd frm why hk cards parcels vector who openings m w
  · obtain ⟨k, rfl⟩ : ∃ k : Nat, kd = (k : Int) := ⟨kd.toNat, by omega⟩
    exact refGood15_any k (by omega) (by omega) frm why cards parcels vector who openings m w F hs
end Go.Proofs.Ytepchjpdfmleoaa
