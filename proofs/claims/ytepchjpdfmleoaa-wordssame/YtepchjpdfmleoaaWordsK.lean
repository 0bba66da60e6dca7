/-
  Package words: Encode.
-/
import Derived.Test.YtepchjpdfmleoaaMgWd
import Derived.Test.YtepchjpdfmleoaaMgWc
import Derived.Deep.RegionWith
namespace Go.Proofs.Ytepchjpdfmleoaa
open Go.RowKit Cn Pn Wn
set_option linter.unusedVariables false

theorem flat_len {α : Type} (f : α → List Nat) (l : List α) (b : Nat) (h : ∀ x ∈ l, (f x).length ≤ b) : (l.flatMap f).length ≤ l.length * b := by
  have := pre_len f l b h l.length
  rwa [pre_all] at this
theorem text_len {c : Wd} (F : Fine c) : (textT c).length ≤ 20000 := by
  have K := F.text
  have h1 := flat_len cardT c.cards 20 (cardT_len K)
  have h2 := flat_len parcelT c.parcels 76 (parcelT_len K)
  have h3 := flat_len le4 c.vector 4 (fun x _ => by rw [le4_len]; omega)
  have h4 := flat_len (fun n : Int => le4 n.toNat) c.who 4 (fun x _ => by rw [le4_len]; omega)
  have h5 := flat_len openingT c.openings 52 (openingT_len K)
  have l1 := F.cards.1
  have l2 := F.parcels.1
  have l3 := F.vector
  have l4 := F.who.1
  have l5 := F.openings.1
  unfold textT
  simp only [List.length_append, le4_len]
  omega
theorem Lw.ptr {K : LetterK} {w0 wr : World} {bs : List (Nat × TypeId × List Value)} {v : Value} {st : Option (List Nat)} {m : Nat} (h : Lw w0 bs (K.Pap v st m) wr) : ∃ a, v = .pointer (some a) := by
  obtain ⟨O, _, _, _, h4⟩ := h
  exact K.papPtr h4

/-- What Encode hands back. -/
def EncR (w : World) (c : Wd) (e : Ending) (w' : World) : Prop :=
  if goodB c then ∃ g cap rest, e = .returned (.tuple #[.slice (some ⟨g, 0, none⟩) (sealed (textT c)).length cap, .int .i64 0]) ∧ w.heap.size ≤ g ∧ (sealed (textT c)).length ≤ cap ∧ Row w' g 5 (nums .u8 (sealed (textT c)) ++ rest) ∧ Old w w'
  else e = .returned (.tuple #[.slice none 0 0, .int .i64 2]) ∧ Old w w'

set_option maxRecDepth 100000 in
set_option maxHeartbeats 4000000 in
theorem encode_any (K : LetterK) (c : Wd) (m : WM) (w : World) (F : WordIn w c m) (CP : Caps c m) :
    Calls Try.prog 12 #[.agg (wdc c m).toArray] w fun e w' => EncR w c e w' := by
  have C1 := hide (good15_any c m _ (F.mono (Old.of_alloc w (.cells (wdc c m).toArray 29))))
  have BX0 := hide ((Bxs.nil w).alloc 29 (wdc c m) rfl)
  unfold EncR
  by_cases hg : goodB c = true
  · rw [hg] at C1
    simp only [if_pos hg]
    have FF := hide (good_fine hg)
    have SE : Hid (sealE (some (textT c)) = 0) := by show _ = _; unfold sealE; have := text_len FF.out; simp; omega
    have SS : Hid (sealS (some (textT c)) = sealed (textT c)) := rfl
    unfold wdc at *
    go_enter Try.func12, Try.ntmps12
    go_wp2_with fail
    refine C1.out.mono ?_
    rintro e w1 ⟨rfl, o1⟩
    have BX1 := hide (BX0.out.mono o1)
    clear BX0 C1 o1
    have e1 := (BX1.out.row 0 rfl)
    have d0 := e1.cell (i := 0) rfl
    have d1 := e1.cell (i := 1) rfl
    have d2 := e1.cell (i := 2) rfl
    have d3 := e1.cell (i := 3) rfl
    have d4 := e1.cell (i := 4) rfl
    have d5 := e1.cell (i := 5) rfl
    have d6 := e1.cell (i := 6) rfl
    have d7 := e1.cell (i := 7) rfl
    clear e1
    have HF := hide (F.mono (Old.refl w))
    go_wp2_with fail
    go_region_with (first
      | (go_at_call 23
         refine (Lw.blank (K := K) ((BX1.out).mono (Old.of_drewN w1 1))).mono ?_
         rintro e w2 ⟨v, rfl, L2⟩
         obtain ⟨ap, rfl⟩ := Lw.ptr L2
         have HL2 := hide L2
         have x0 := (L2.row 0 rfl).cell (i := 0) rfl
         have x1 := (L2.row 0 rfl).cell (i := 1) rfl
         have x2 := (L2.row 0 rfl).cell (i := 2) rfl
         have x3 := (L2.row 0 rfl).cell (i := 3) rfl
         have x4 := (L2.row 0 rfl).cell (i := 4) rfl
         have x5 := (L2.row 0 rfl).cell (i := 5) rfl
         have x6 := (L2.row 0 rfl).cell (i := 6) rfl
         have x7 := (L2.row 0 rfl).cell (i := 7) rfl
         clear L2)
      | (go_at_call 24
         refine (writer_word K HL2.out c m HF.out FF.out CP).mono ?_
         rintro e w3 ⟨rfl, mm, hmm, L3⟩
         have HM3 := hide hmm
         have HL3 := hide L3
         clear hmm L3)
      | (go_at_call 25
         refine (Lw.sealed_ HL3.out (by have := HM3.out; omega)).mono ?_
         rintro e w4 ⟨r, rfl, B4, z4, ok, bad⟩
         rw [SE.out, SS.out] at ok
         obtain ⟨gg, cg, rest, rfl, lg, hc, RG⟩ := ok rfl
         rw [SE.out]
         have HB4 : Hid (w.heap.size ≤ gg ∧ (sealed (textT c)).length ≤ cg ∧ Row w4 gg 5 (nums .u8 (sealed (textT c)) ++ rest) ∧ Old w w4) := ⟨Nat.le_trans HL3.out.old.size lg, hc, RG, B4.old⟩
         clear B4 z4 ok bad lg hc RG))
    all_goals
      simp only [Act.put, List.getElem_toArray, List.getElem_cons_succ, List.getElem_cons_zero, List.setIfInBounds_toArray, List.set_cons_succ, List.set_cons_zero]
      go_wp2
      go_ret2
      exact ⟨_, _, _, rfl, HB4.out⟩
  · rw [show goodB c = false by simpa using hg] at C1
    simp only [if_neg hg]
    clear F
    unfold wdc at *
    go_enter Try.func12, Try.ntmps12
    go_wp2_with fail
    refine C1.out.mono ?_
    rintro e w1 ⟨rfl, o1⟩
    have O1 := hide (BX0.out.mono o1).old
    clear o1
    go_wp2
    go_ret2
    exact ⟨rfl, O1.out⟩
end Go.Proofs.Ytepchjpdfmleoaa
