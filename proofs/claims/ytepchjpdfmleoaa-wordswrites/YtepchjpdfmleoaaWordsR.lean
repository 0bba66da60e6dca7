/-
  Package words: Decode.
-/
import Derived.Test.YtepchjpdfmleoaaMgWb
import Derived.Test.YtepchjpdfmleoaaMgWc
namespace Go.Proofs.Ytepchjpdfmleoaa
open Go.RowKit Cn Pn Wn Rn
set_option linter.unusedVariables false

theorem results_w2 {P : Program} {fn : Func} {p q : Tmp} {ty : TypeId} (h : fn.results = #[.cell p ty, .tmp q]) {tmps : Array Value} {w : World} {g : Nat} {t : TypeId} {vs : List Value} {d : TypeDesc} {v : Value}
    (hp : tmps.getD p undef = .pointer (some ⟨g, 0, none⟩)) (hq : tmps.getD q undef = v) (R : Row w g t vs)
    (hu : P.underlying ty = some d) (hd : (match d with | .struct _ | .array _ _ => true | _ => false) = true) (hi : (P.info? ty).map (·.size) = some vs.length) :
    (results fn tmps).run P w = .ok (.tuple #[.agg vs.toArray, v]) w := by
  have hp' : tmps[p]?.getD undef = .pointer (some ⟨g, 0, none⟩) := by simpa using hp
  have hq' : tmps[q]?.getD undef = v := by simpa using hq
  simp [results, h, hp', hq', asAddr, run_loadVar_row w g t ty vs.toArray (0, 0) d R hu hd (by simpa using hi)]

theorem lookF (a : Option Addr) (n cap : Nat) (xs : List Nat) (w : World) (Y : By14 w a n cap xs) :
    Calls Try.prog 26 #[.slice a n cap] w fun e w' => ∃ b, e = .returned (.pointer (some ⟨b, 0, none⟩)) ∧ Old w w' ∧ w.heap.size ≤ b ∧ b < w'.heap.size ∧ EyeF (fun i => i = w'.heap.size ∨ i = b ∨ w'.heap.size + 1 ≤ i) b (opL xs) (opE xs) w' :=
  (look_any a n cap xs w Y).mono fun e w' ⟨v, O, e1, o, hO, q⟩ => by
    have hin := q.isIn
    obtain ⟨b, a', k, r, rfl, hI, P⟩ := q
    refine ⟨b, e1, o, hO b ((hI b).2 (.inl rfl)), P.row.lt, a', k, r, P, fun x hp hx hs => ?_⟩
    have h1 := hin x.block ((hI _).2 (.inr ⟨x, hp, hx, rfl⟩))
    have h2 := P.ne x hp hx
    rcases hs with hs | hs | hs
    · omega
    · exact h2 hs
    · omega

/-- What a reader begins with. -/
def rs0 (xs : List Nat) : Rs := ⟨opL xs, opE xs, false⟩
/-- Are bytes a good word's? -/
def decB (xs : List Nat) : Bool := decide (endE (s8 (rs0 xs)).l (s8 (rs0 xs)).er = 0) && (!(s8 (rs0 xs)).st && goodB (rWord (rs0 xs)).1)
/-- What Decode hands back. -/
def DecR (w : World) (xs : List Nat) (e : Ending) (w' : World) : Prop :=
  if decB xs then ∃ m, e = .returned (.tuple #[.agg (wdc (rWord (rs0 xs)).1 m).toArray, .int .i64 0]) ∧ WordIn w' (rWord (rs0 xs)).1 m ∧ Old w w' ∧ ∀ x, 0 < (rWord (rs0 xs)).1.who.length → m.a4 = some x → w.heap.size ≤ x.block
  else e = .returned (.tuple #[.agg (wdc zeroW zeroM).toArray, .int .i64 2]) ∧ Old w w'

/-- The bytes of parcels do not lie in a row of other things. -/
theorem data_off {w : World} {X : Nat} {t : TypeId} {vs : List Value} (R : Row w X t vs) (hv : ∀ (i : Nat) (v : Value), vs[i]? = some v → ∀ z, v ≠ .int .u8 z) {a : Option Addr} {xs : List Nat} (h : Rd w a (nums .u8 xs)) : ∀ x, 0 < (nums .u8 xs).length → a = some x → x.block ≠ X := by
  intro x hp hx e
  obtain ⟨b, off, e1, hc⟩ := h 0 _ (List.getElem?_eq_getElem hp)
  rw [e1] at hx
  cases hx
  simp only at e
  subst e
  unfold Row at R
  simp only [World.cell?, R] at hc
  have h2 : (nums .u8 xs)[0] = .int .u8 ((xs[0]'(by rw [nums_length] at hp; exact hp) : Nat) : Int) := by simp [nums]
  rw [h2] at hc
  simp at hc
  exact hv _ _ hc _ rfl
theorem zeros_u8 : ∀ (i : Nat) (v : Value), ([.int .i64 0, .int .i64 0, .int .i64 0, .slice none 0 0, .slice none 0 0, .slice none 0 0, .slice none 0 0, .slice none 0 0] : List Value)[i]? = some v → ∀ z, v ≠ .int .u8 z := by
  intro i v h z e
  subst e
  match i, h with
  | 0, h => simp at h
  | 1, h => simp at h
  | 2, h => simp at h
  | 3, h => simp at h
  | 4, h => simp at h
  | 5, h => simp at h
  | 6, h => simp at h
  | 7, h => simp at h
  | i + 8, h => simp at h

set_option maxRecDepth 100000 in
set_option maxHeartbeats 4000000 in
theorem decode_any (a : Option Addr) (n cap : Nat) (xs : List Nat) (w : World) (Y : By14 w a n cap xs) :
    Calls Try.prog 13 #[.slice a n cap] w fun e w' => DecR w xs e w' := by
  have HBY : Hid (By (rs0 xs)) := opL_lt Y.each
  have OA : Hid (Old w (w.alloc (.cells #[.int .i64 0, .int .i64 0, .int .i64 0, .slice none 0 0, .slice none 0 0, .slice none 0 0, .slice none 0 0, .slice none 0 0] 29))) := Old.of_alloc w _
  have RA := hide (Row.new w 29 [.int .i64 0, .int .i64 0, .int .i64 0, .slice none 0 0, .slice none 0 0, .slice none 0 0, .slice none 0 0, .slice none 0 0])
  have CL := hide (lookF a n cap xs _ (Y.mono OA.out))
  have HD : Hid (decB xs = (decide (endE (s8 (rs0 xs)).l (s8 (rs0 xs)).er = 0) && (!(s8 (rs0 xs)).st && goodB (rWord (rs0 xs)).1))) := rfl
  have FOK : Hid (decB xs = true → ∀ m w9, WordIn w9 (rWord (rs0 xs)).1 m → Old w w9 → (∀ x, 0 < (rWord (rs0 xs)).1.who.length → m.a4 = some x → w.heap.size ≤ x.block) → DecR w xs (.returned (.tuple #[.agg (wdc (rWord (rs0 xs)).1 m).toArray, .int .i64 0])) w9) := by
    intro h m w9 h1 h2 h3
    unfold DecR
    rw [if_pos h]
    exact ⟨m, rfl, h1, h2, h3⟩
  have FBAD : Hid (decB xs = false → ∀ w9, Old w w9 → DecR w xs (.returned (.tuple #[.agg (wdc zeroW zeroM).toArray, .int .i64 2])) w9) := by
    intro h w9 h2
    unfold DecR
    rw [h]
    exact ⟨rfl, h2⟩
  obtain ⟨W0, hW0⟩ : ∃ W0, W0 = w.alloc (.cells #[.int .i64 0, .int .i64 0, .int .i64 0, .slice none 0 0, .slice none 0 0, .slice none 0 0, .slice none 0 0, .slice none 0 0] 29) := ⟨_, rfl⟩
  have SZ0 : Hid (W0.heap.size = w.heap.size + 1) := by rw [Hid, hW0, World.size_alloc]
  have RA0 : Hid (Row W0 w.heap.size 29 [.int .i64 0, .int .i64 0, .int .i64 0, .slice none 0 0, .slice none 0 0, .slice none 0 0, .slice none 0 0, .slice none 0 0]) := by rw [hW0]; exact RA.out
  rw [← hW0] at OA CL
  have HW := hide hW0
  clear RA hW0 Y
  generalize decB xs = dB at HD FOK FBAD
  obtain ⟨s, hs⟩ : ∃ s, s = rs0 xs := ⟨_, rfl⟩
  have es : (opL xs = s.l ∧ opE xs = s.er) ∧ false = s.st := by rw [hs]; exact ⟨⟨rfl, rfl⟩, rfl⟩
  rw [es.1.1, es.1.2] at CL
  rw [← hs] at HD HBY FOK
  have ST : Hid (false = s.st) := es.2
  have BD := hide (word_b s HBY.out)
  clear es hs HBY
  generalize hc : (rWord s).1 = c at HD FOK BD
  have HC := hide hc
  clear hc
  go_enter Try.func13, Try.ntmps13
  go_wp2_with fail
  rw [← HW.out]
  refine CL.out.mono ?_
  rintro e w1 ⟨b, rfl, o1, hb, hbl, q1⟩
  have O1 := hide o1
  have RV : Hid (RdrV (w1.heap.size + 1) w1.heap.size b s (w1.alloc (.cells #[.pointer (some ⟨b, 0, none⟩), .bool false] 65))) := by
    have E := q1.mono (Old.of_alloc w1 (.cells #[.pointer (some ⟨b, 0, none⟩), .bool false] 65))
    refine ⟨?_, by omega, by omega, by omega, by rw [World.size_alloc]; exact Nat.le_refl _, E⟩
    rw [← ST.out]
    exact Row.new w1 65 [.pointer (some ⟨b, 0, none⟩), .bool false]
  have GE : Hid (W0.heap.size ≤ w1.heap.size ∧ W0.heap.size ≤ b) := ⟨o1.size, hb⟩
  have SZ1 := hide (World.size_alloc w1 (.cells #[.pointer (some ⟨b, 0, none⟩), .bool false] 65))
  have CW := hide (reader_word RV.out)
  have OR1 : Hid (Old W0 (w1.alloc (.cells #[.pointer (some ⟨b, 0, none⟩), .bool false] 65))) := o1.trans (Old.of_alloc _ _)
  clear CL o1 hb hbl q1 RV
  generalize hg : w1.heap.size = g at *
  go_wp2_with fail
  refine CW.out.mono ?_
  rintro e w2 ⟨m, rfl, ws, k2, r2⟩
  rw [HC.out] at ws ⊢
  have GS : Hid (∀ i, Sgb g b i → W0.heap.size ≤ i) := fun i hi => by have := GE.out; rcases hi with rfl | rfl <;> omega
  have O2 : Hid (Old W0 w2) := k2.old OR1.out GS.out
  have WS := hide (ws.kept (T := fun _ => False) (Kept.of_old (Old.of_alloc w2 (.cells (wdc c m).toArray 29))) (fun _ h => h.elim) (fun _ h => h.elim))
  have RV2 := hide (r2.mono (Old.of_alloc w2 (.cells (wdc c m).toArray 29)))
  have RB := hide (Row.new w2 29 (wdc c m))
  have SZ2 : Hid (g < w2.heap.size ∧ b < w2.heap.size ∧ w.heap.size < w2.heap.size) := ⟨Nat.lt_of_lt_of_le r2.gB r2.size, Nat.lt_of_lt_of_le r2.bB r2.size, by have := SZ0.out; have := O2.out.size; omega⟩
  have cp := RV2.out.ptr
  have CE := hide (eEndF _ b _ _ _ RV2.out.eye)
  have HD2 : Hid (dB = (decide (endE (s8 s).l (s8 s).er = 0) && (!(s8 s).st && goodB c))) := HD.out
  have O2a : Hid (Old W0 (w2.alloc (.cells (wdc c m).toArray 29))) := O2.out.trans (Old.of_alloc _ _)
  clear CW OR1 ws k2 r2 HD HC O2
  generalize s8 s = s9 at *
  generalize endE s9.l s9.er = er at *
  unfold wdc at RB CE WS RV2 cp O2a ⊢
  go_wp2_with fail
  refine CE.out.mono ?_
  rintro e w3 ⟨rfl, k3⟩
  have cst := (k3.row RV2.out.row (fun h => RV2.out.ne h)).cell (i := 1) rfl
  have RB3 := hide (k3.row RB.out (fun h => by have := SZ2.out; omega))
  have O3 : Hid (Old W0 w3) := k3.old O2a.out (fun i hi => by have := GE.out; omega)
  have WS3 := hide (WS.out.kept k3 (fun i hi => by have h1 := RV2.out.bB; have h2 := SZ1.out; omega) (fun i hi => .inr (.inl hi)))
  have RR3 := hide (RA0.out.mono O3.out)
  clear CE cp k3 RV2 RB WS O2a
  have bad : ∀ w4, Old W0 w4 → Hid (Row w4 w.heap.size 29 [.int .i64 0, .int .i64 0, .int .i64 0, .slice none 0 0, .slice none 0 0, .slice none 0 0, .slice none 0 0, .slice none 0 0]) := fun w4 o => RA0.out.mono o
  by_cases h0 : er = 0
  · subst h0
    cases hst : s9.st
    · have CG := hide (good15_any c m w3 (WS3.out.wordIn BD.out))
      unfold wdc at CG
      rw [hst] at cst HD2
      have d0 := RB3.out.cell (i := 0) rfl
      have d1 := RB3.out.cell (i := 1) rfl
      have d2 := RB3.out.cell (i := 2) rfl
      have d3 := RB3.out.cell (i := 3) rfl
      have d4 := RB3.out.cell (i := 4) rfl
      have d5 := RB3.out.cell (i := 5) rfl
      have d6 := RB3.out.cell (i := 6) rfl
      have d7 := RB3.out.cell (i := 7) rfl
      clear hst
      go_wp2_with fail
      refine CG.out.mono ?_
      rintro e w4 ⟨rfl, o4⟩
      have O4 := hide (O3.out.trans o4)
      have RB4 := hide (RB3.out.mono o4)
      have WS4 := hide (WS3.out.kept (T := fun _ => False) (Kept.of_old o4) (fun _ h => h.elim) (fun _ h => h.elim))
      have R4 := bad _ O4.out
      clear CG o4 d0 d1 d2 d3 d4 d5 d6 d7 RB3 WS3 cst bad
      cases hgd : goodB c
      · have E : Hid (dB = false) := by rw [Hid, HD2.out, hgd]; rfl
        clear HD2 hgd
        go_wp2_with (refine wp_store_whole rfl 29 _ _ rfl w.heap.size rfl (wdc zeroW zeroM) rfl R4.out infoWd8 rfl (by intro u hu; simp [wdc, zeroW, zeroM] at hu; rcases hu with rfl | rfl <;> rfl) ?_; rintro w9 h9
                     have E9 : Hid (Row w9 w.heap.size 29 (wdc zeroW zeroM) ∧ Old w w9) := by subst h9; exact ⟨R4.out.whole _, (OA.out.trans O4.out).grown (grown_setRow _ _ _) (Nat.le_refl _)⟩
                     clear h9 R4)
        exact bodyPost_ret (v := .tuple #[.agg (wdc zeroW zeroM).toArray, .int .i64 2]) (results_w2 rfl rfl rfl E9.out.1 Try.underlying29 rfl infoWd8) rfl (FBAD.out E.out w9 E9.out.2)
      · have E : Hid (dB = true) := by rw [Hid, HD2.out, hgd]; rfl
        have d0 := RB4.out.cell (i := 0) rfl
        have d1 := RB4.out.cell (i := 1) rfl
        have d2 := RB4.out.cell (i := 2) rfl
        have d3 := RB4.out.cell (i := 3) rfl
        have d4 := RB4.out.cell (i := 4) rfl
        have d5 := RB4.out.cell (i := 5) rfl
        have d6 := RB4.out.cell (i := 6) rfl
        have d7 := RB4.out.cell (i := 7) rfl
        clear HD2 hgd
        go_wp2_with (refine wp_store_whole rfl 29 _ _ rfl w.heap.size rfl (wdc c m) rfl R4.out infoWd8 rfl (by intro u hu; simp [wdc] at hu; rcases hu with rfl | rfl | rfl | rfl | rfl | rfl | rfl | rfl <;> rfl) ?_; rintro w9 h9
                     have E9 : Hid (Row w9 w.heap.size 29 (wdc c m) ∧ Old w w9 ∧ WordIn w9 c m) := by
                       subst h9
                       refine ⟨R4.out.whole _, (OA.out.trans O4.out).grown (grown_setRow _ _ _) (Nat.le_refl _), ?_⟩
                       have K9 : Kept (fun i => i = w.heap.size) w4 (w4.setRow w.heap.size (wdc c m).toArray) := Kept.of_grown (grown_setRow _ _ _) rfl
                       have WX : WordS (fun i => i = w.heap.size) (fun i => i = w.heap.size) w4 c m := by
                         have hlt : ∀ i, i = w.heap.size → i < (w1.alloc (.cells #[.pointer (some ⟨b, 0, none⟩), .bool false] 65)).heap.size + 1 := fun i hi => by
                           have h1 := GE.out
                           have h2 := SZ0.out
                           have h3 := SZ1.out
                           omega
                         exact ⟨WS4.out.caps, WS4.out.cards.weak hlt, WS4.out.parcels.weak hlt, fun i x hx => ⟨(WS4.out.datas i x hx).1, fun y hp hy => data_off R4.out zeros_u8 (WS4.out.datas i x hx).1 y hp hy⟩, WS4.out.vector.weak hlt, WS4.out.who.weak hlt, WS4.out.openings.weak hlt, fun i x hx => (WS4.out.vals i x hx).weak hlt⟩
                       exact (WX.kept K9 (fun _ h => h) (fun _ h => h)).wordIn BD.out
                     clear h9 R4)
        exact bodyPost_ret (v := .tuple #[.agg (wdc c m).toArray, .int .i64 0]) (results_w2 rfl rfl rfl E9.out.1 Try.underlying29 rfl infoWd8) rfl (FOK.out E.out m w9 E9.out.2.2 E9.out.2.1 (fun x hp hx => by
          have h1 := WS4.out.who.2 x (by simpa [ints] using hp) hx
          have h2 := SZ1.out
          have h3 := GE.out
          have h4 := SZ0.out
          omega))
    · rw [hst] at cst HD2
      have E : Hid (dB = false) := by rw [Hid, HD2.out]; rfl
      have R4 := bad _ O3.out
      clear HD2 hst bad
      go_wp2_with (refine wp_store_whole rfl 29 _ _ rfl w.heap.size rfl (wdc zeroW zeroM) rfl R4.out infoWd8 rfl (by intro u hu; simp [wdc, zeroW, zeroM] at hu; rcases hu with rfl | rfl <;> rfl) ?_; rintro w9 h9
                   have E9 : Hid (Row w9 w.heap.size 29 (wdc zeroW zeroM) ∧ Old w w9) := by subst h9; exact ⟨R4.out.whole _, (OA.out.trans O3.out).grown (grown_setRow _ _ _) (Nat.le_refl _)⟩
                   clear h9 R4)
      exact bodyPost_ret (v := .tuple #[.agg (wdc zeroW zeroM).toArray, .int .i64 2]) (results_w2 rfl rfl rfl E9.out.1 Try.underlying29 rfl infoWd8) rfl (FBAD.out E.out w9 E9.out.2)
  · have t0 : (er != 0) = true := by simpa using h0
    have E : Hid (dB = false) := by rw [Hid, HD2.out, decide_eq_false h0]; rfl
    have R4 := bad _ O3.out
    clear HD2 h0 bad
    go_wp2_with (refine wp_store_whole rfl 29 _ _ rfl w.heap.size rfl (wdc zeroW zeroM) rfl R4.out infoWd8 rfl (by intro u hu; simp [wdc, zeroW, zeroM] at hu; rcases hu with rfl | rfl <;> rfl) ?_; rintro w9 h9
                 have E9 : Hid (Row w9 w.heap.size 29 (wdc zeroW zeroM) ∧ Old w w9) := by subst h9; exact ⟨R4.out.whole _, (OA.out.trans O3.out).grown (grown_setRow _ _ _) (Nat.le_refl _)⟩
                 clear h9 R4)
    exact bodyPost_ret (v := .tuple #[.agg (wdc zeroW zeroM).toArray, .int .i64 2]) (results_w2 rfl rfl rfl E9.out.1 Try.underlying29 rfl infoWd8) rfl (FBAD.out E.out w9 E9.out.2)
end Go.Proofs.Ytepchjpdfmleoaa
