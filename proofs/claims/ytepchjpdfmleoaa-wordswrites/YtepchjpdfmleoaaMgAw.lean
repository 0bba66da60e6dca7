/-
  MgAw: 2 parts, one behind the other; what each proves, and under which conditions, its own heading says.
-/
import Derived.Test.YtepchjpdfmleoaaWordsR
import Derived.Test.YtepchjpdfmleoaaWordsK

/-
  Which bytes are a good word's: just those that it is written as.
-/
namespace Go.Proofs.Ytepchjpdfmleoaa
open Go.RowKit Cn Pn Wn Rn
set_option linter.unusedVariables false

theorem open_sealed {xs : List Nat} (h : opE xs = 0) : xs = sealed (opL xs) := by
  have hl : opL xs = xs.take (xs.length - 4) := by unfold opL; rw [if_pos h]
  rw [hl]
  unfold opE at h
  split at h
  · cases h
  split at h
  · cases h
  split at h
  · cases h
  rename_i h1 h2 h3
  have h3' : le4 (crc (xs.take (xs.length - 4))) = xs.drop (xs.length - 4) := by simpa using h3
  unfold sealed
  rw [h3', List.take_append_drop]
theorem sealed_open {l : List Nat} (hl : l.length ≤ 65536) : opE (sealed l) = 0 ∧ opL (sealed l) = l := by
  have hn : (sealed l).length = l.length + 4 := by unfold sealed; rw [List.length_append, le4_len]
  have ht : (sealed l).take ((sealed l).length - 4) = l := by rw [hn]; unfold sealed; simp
  have hd : (sealed l).drop ((sealed l).length - 4) = le4 (crc l) := by rw [hn]; unfold sealed; simp
  have h0 : opE (sealed l) = 0 := by
    unfold opE
    rw [if_neg (by omega), if_neg (by omega), ht, hd, if_neg (by simp)]
  refine ⟨h0, ?_⟩
  unfold opL
  rw [if_pos h0, ht]
theorem rd_of_good {c : Wd} (hg : goodB c = true) (W : Whole c) : Rd15 c := by
  have F := good_fine hg
  refine ⟨?_, ?_, ?_, ⟨F.cards.1, fun x hx => ⟨?_, W.cards x hx⟩⟩, ⟨F.parcels.1, fun x hx => ?_⟩, ⟨F.vector, W.vector⟩, ⟨F.who.1, fun x hx => ?_⟩, ⟨F.openings.1, fun x hx => ⟨?_, (F.openings.2 x hx).2, W.openings x hx⟩⟩⟩
  · have := F.kind; omega
  · have := F.frm; omega
  · have := F.why; omega
  · have := F.cards.2 x hx; omega
  · have := F.parcels.2 x hx
    exact ⟨by omega, by omega, by omega⟩
  · have := F.who.2 x hx; omega
  · have := (F.openings.2 x hx).1; omega
theorem decB_fwd {xs : List Nat} (hx : ∀ x ∈ xs, x < 256) (h : decB xs = true) : goodB (rWord (rs0 xs)).1 = true ∧ xs = sealed (textT (rWord (rs0 xs)).1) := by
  have hb : By (rs0 xs) := opL_lt hx
  unfold decB at h
  have wf := word_fwd (rs0 xs) hb
  generalize s8 (rs0 xs) = s9 at *
  simp only [Bool.and_eq_true, decide_eq_true_eq, Bool.not_eq_true'] at h
  obtain ⟨h1, h2, h3⟩ := h
  refine ⟨h3, ?_⟩
  have he : s9.er = 0 ∧ s9.l = [] := by
    unfold endE at h1
    split at h1
    · rename_i h4; exact absurd h1 h4
    · rename_i h4
      split at h1
      · rename_i h5; exact ⟨by omega, List.eq_nil_of_length_eq_zero h5⟩
      · cases h1
  obtain ⟨a1, a2, a3⟩ := wf he.1 h2
  rw [he.2, List.append_nil] at a3
  have a1' : opE xs = 0 := a1
  have a3' : opL xs = textT (rWord (rs0 xs)).1 := a3
  rw [← a3']
  exact open_sealed a1'
theorem decB_bwd {c : Wd} (hg : goodB c = true) (W : Whole c) : decB (sealed (textT c)) = true ∧ (rWord (rs0 (sealed (textT c)))).1 = c := by
  have F := good_fine hg
  obtain ⟨e1, e2⟩ := sealed_open (l := textT c) (by have := text_len F; omega)
  have e3 : rs0 (sealed (textT c)) = ⟨textT c ++ [], 0, false⟩ := by unfold rs0; rw [e1, e2, List.append_nil]
  have e4 := got_word.bwd c [] (rd_of_good hg W)
  rw [← e3] at e4
  have e5 : (rWord (rs0 (sealed (textT c)))).1 = c := by rw [e4]
  have e6 : s8 (rs0 (sealed (textT c))) = ⟨[], 0, false⟩ := by rw [← rWord2, e4]
  refine ⟨?_, e5⟩
  unfold decB
  rw [e6, e5, hg]
  rfl
/-- Bytes that no word is written as. -/
theorem decB_no {xs : List Nat} (hx : ∀ x ∈ xs, x < 256) (h : opE xs ≠ 0) : decB xs = false := by
  cases hd : decB xs with
  | false => rfl
  | true =>
    exfalso
    obtain ⟨h1, h2⟩ := decB_fwd hx hd
    rw [h2] at h
    exact h (sealed_open (by have := text_len (good_fine h1); omega)).1
theorem WordIn.whole {w : World} {c : Wd} {m : WM} (h : WordIn w c m) : Whole c := ⟨fun x hx => (h.cardB x hx).2, h.vectorB, fun x hx => (h.openingB x hx).2.1⟩
end Go.Proofs.Ytepchjpdfmleoaa

/-
  The fixed fact of layer 15's statements; what 'large' says.
-/
namespace Go.Proofs.Ytepchjpdfmleoaa
open Go.RowKit Cn Pn Wn Rn
set_option linter.unusedVariables false

namespace Aw15
def c0 : Wd := ⟨6, 0, 0, [], [], [], [2, 5], []⟩
def c1 : Wd := ⟨6, 0, 0, [], [], [], [2, 2], []⟩
def c2 : Wd := ⟨8, 1, 12, [], [], [], [], []⟩
theorem g0 : goodB c0 = true := by decide +kernel
theorem g1 : goodB c1 = false := by decide +kernel
theorem g2 : goodB c2 = true := by decide +kernel
def mW (a : Option Addr) (k : Nat) : WM := ⟨none, 0, none, 0, none, 0, a, k, none, 0, fun _ => none, fun _ => 0, fun _ => none, fun _ => 0⟩
theorem in_ (who : List Int) (kd frm why : Int) (hk : B64 kd ∧ B64 frm ∧ B64 why) (hw : ∀ x ∈ who, B64 x) (hl : who.length ≤ 9223372036854775807) (m : WM) (hc : who.length ≤ m.c4) (w : World) (R : Rd w m.a4 (ints who)) : WordIn w ⟨kd, frm, why, [], [], [], who, []⟩ m := by
  refine ⟨hk, ⟨by simp, by simp, by simp, hl, by simp⟩, ⟨by simp, by simp, by simp, hc, by simp⟩, ?_, ?_, ?_, ?_, Rd.nil _, ?_, R, hw, ?_, ?_⟩ <;> simp
theorem b64 {z : Int} (h : -1000 ≤ z ∧ z ≤ 1000) : B64 z := by unfold B64; omega
end Aw15

/-- Is more of a word than could be sealed? -/
def largeB (c : Wd) : Bool := decide (2000 < c.cards.length) || decide (2000 < c.parcels.length) || decide (2000 < c.vector.length) || decide (2000 < c.who.length) || decide (2000 < c.openings.length)
theorem large_no {c : Wd} (h : largeB c = false) : c.cards.length ≤ 2000 ∧ c.parcels.length ≤ 2000 ∧ c.vector.length ≤ 2000 ∧ c.who.length ≤ 2000 ∧ c.openings.length ≤ 2000 := by
  unfold largeB at h
  simp only [Bool.or_eq_false_iff, decide_eq_false_iff_not] at h
  omega
set_option maxRecDepth 100000 in
set_option maxHeartbeats 1000000 in
theorem large_any (c : Wd) (m : WM) (w : World) : Calls Try.prog 9 #[.agg (wdc c m).toArray] w fun e w' => e = .returned (.bool (largeB c)) ∧ Old w w' := by
  have O0 := hide (Old.of_alloc w (.cells (wdc c m).toArray 29))
  unfold largeB wdc at *
  generalize c.cards.length = n1 at *
  generalize c.parcels.length = n2 at *
  generalize c.vector.length = n3 at *
  generalize c.who.length = n4 at *
  generalize c.openings.length = n5 at *
  by_cases h1 : 2000 < n1
  · have t1 : decide ((2000 : Int) < (n1 : Int)) = true := decide_eq_true (by omega)
    have t1' : decide ((n1 : Int) > 2000) = true := t1
    have t1'' : decide (2000 < n1) = true := decide_eq_true h1
    rw [t1'']
    clear h1
    go_enter Try.func9, Try.ntmps9
    go_wp2
    go_ret
    exact ⟨rfl, O0.out⟩
  have t1 : decide ((2000 : Int) < (n1 : Int)) = false := decide_eq_false (by omega)
  have t1' : decide ((n1 : Int) > 2000) = false := t1
  have t1'' : decide (2000 < n1) = false := decide_eq_false h1
  rw [t1'', Bool.false_or]
  clear h1
  by_cases h1 : 2000 < n2
  · have t2 : decide ((2000 : Int) < (n2 : Int)) = true := decide_eq_true (by omega)
    have t2' : decide ((n2 : Int) > 2000) = true := t2
    have t2'' : decide (2000 < n2) = true := decide_eq_true h1
    rw [t2'']
    clear h1
    go_enter Try.func9, Try.ntmps9
    go_wp2
    go_ret
    exact ⟨rfl, O0.out⟩
  have t2 : decide ((2000 : Int) < (n2 : Int)) = false := decide_eq_false (by omega)
  have t2' : decide ((n2 : Int) > 2000) = false := t2
  have t2'' : decide (2000 < n2) = false := decide_eq_false h1
  rw [t2'', Bool.false_or]
  clear h1
  by_cases h1 : 2000 < n3
  · have t3 : decide ((2000 : Int) < (n3 : Int)) = true := decide_eq_true (by omega)
    have t3' : decide ((n3 : Int) > 2000) = true := t3
    have t3'' : decide (2000 < n3) = true := decide_eq_true h1
    rw [t3'']
    clear h1
    go_enter Try.func9, Try.ntmps9
    go_wp2
    go_ret
    exact ⟨rfl, O0.out⟩
  have t3 : decide ((2000 : Int) < (n3 : Int)) = false := decide_eq_false (by omega)
  have t3' : decide ((n3 : Int) > 2000) = false := t3
  have t3'' : decide (2000 < n3) = false := decide_eq_false h1
  rw [t3'', Bool.false_or]
  clear h1
  by_cases h1 : 2000 < n4
  · have t4 : decide ((2000 : Int) < (n4 : Int)) = true := decide_eq_true (by omega)
    have t4' : decide ((n4 : Int) > 2000) = true := t4
    have t4'' : decide (2000 < n4) = true := decide_eq_true h1
    rw [t4'']
    clear h1
    go_enter Try.func9, Try.ntmps9
    go_wp2
    go_ret
    exact ⟨rfl, O0.out⟩
  have t4 : decide ((2000 : Int) < (n4 : Int)) = false := decide_eq_false (by omega)
  have t4' : decide ((n4 : Int) > 2000) = false := t4
  have t4'' : decide (2000 < n4) = false := decide_eq_false h1
  rw [t4'', Bool.false_or]
  clear h1
  by_cases h1 : 2000 < n5
  · have t5 : decide ((2000 : Int) < (n5 : Int)) = true := decide_eq_true (by omega)
    have t5' : decide ((n5 : Int) > 2000) = true := t5
    have t5'' : decide (2000 < n5) = true := decide_eq_true h1
    rw [t5'']
    clear h1
    go_enter Try.func9, Try.ntmps9
    go_wp2
    go_ret
    exact ⟨rfl, O0.out⟩
  have t5 : decide ((2000 : Int) < (n5 : Int)) = false := decide_eq_false (by omega)
  have t5' : decide ((n5 : Int) > 2000) = false := t5
  have t5'' : decide (2000 < n5) = false := decide_eq_false h1
  rw [t5'']
  clear h1
  go_enter Try.func9, Try.ntmps9
  go_wp2
  go_ret
  exact ⟨rfl, O0.out⟩
theorem sealed15_lt {l : List Nat} (h : ∀ x ∈ l, x < 256) : ∀ x ∈ sealed l, x < 256 := by
  intro x hx
  unfold sealed at hx
  rcases List.mem_append.1 hx with h1 | h1
  · exact h x h1
  · exact le4_lt _ x h1
theorem flat_lt {α : Type} {f : α → List Nat} {l : List α} (h : ∀ x ∈ l, ∀ y ∈ f x, y < 256) : ∀ y ∈ l.flatMap f, y < 256 := by
  intro y hy
  obtain ⟨x, hx, hxy⟩ := List.mem_flatMap.1 hy
  exact h x hx y hxy
theorem app_lt {a b : List Nat} (ha : ∀ x ∈ a, x < 256) (hb : ∀ x ∈ b, x < 256) : ∀ x ∈ a ++ b, x < 256 := fun x hx => (List.mem_append.1 hx).elim (ha x) (hb x)
/-- A word's fields are bytes. -/
theorem text_lt {c : Wd} (h : ∀ x ∈ c.parcels, ∀ y ∈ x.data, y < 256) : ∀ x ∈ textT c, x < 256 := by
  unfold textT
  refine app_lt (app_lt (app_lt (app_lt (app_lt (app_lt (app_lt (app_lt (app_lt (app_lt (app_lt (app_lt (le4_lt _) (le4_lt _)) (le4_lt _)) (le4_lt _)) ?_) (le4_lt _)) ?_) (le4_lt _)) ?_) (le4_lt _)) ?_) (le4_lt _)) ?_
  · exact flat_lt fun x _ => app_lt (app_lt (le4_lt _) (le8_lt _)) (le8_lt _)
  · exact flat_lt fun x hx => app_lt (app_lt (le4_lt _) (le4_lt _)) (app_lt (le4_lt _) (h x hx))
  · exact flat_lt fun x _ => le4_lt _
  · exact flat_lt fun x _ => le4_lt _
  · exact flat_lt fun x _ => app_lt (app_lt (app_lt (le4_lt _) (le4_lt _)) (le4_lt _)) (flat_lt fun y _ => le8_lt _)
theorem WordIn.text {w : World} {c : Wd} {m : WM} (h : WordIn w c m) : ∀ x ∈ sealed (textT c), x < 256 := sealed15_lt (text_lt fun x hx => (h.parcelB x hx).2.2.1)
theorem sealed_len {c : Wd} (h : goodB c = true) : (sealed (textT c)).length ≤ 20004 := by
  have := text_len (good_fine h)
  unfold sealed
  rw [List.length_append, le4_len]
  omega

set_option maxRecDepth 100000 in
set_option maxHeartbeats 4000000 in
theorem awake15 (w : World) : Calls Try.prog 8 #[] w fun e w' => e = .returned (.bool true) ∧ Old w w' := by
  obtain ⟨W1, hW1⟩ : ∃ W1, W1 = (w.alloc (.cells #[.int .i64 2, .int .i64 5] 3)).alloc (.cells #[.int .i64 6, .int .i64 0, .int .i64 0, .slice none 0 0, .slice none 0 0, .slice none 0 0, .slice (some ⟨w.heap.size, 0, none⟩) 2 2, .slice none 0 0] 29) := ⟨_, rfl⟩
  have O1 : Hid (Old w W1) := by rw [hW1]; exact (Old.of_alloc _ _).alloc _
  have SZ1 : Hid (W1.heap.size = w.heap.size + 1 + 1) := by rw [Hid, hW1, World.size_alloc, World.size_alloc]
  have RA : Hid (Row W1 w.heap.size 3 [.int .i64 2, .int .i64 5]) := by rw [hW1]; exact (Row.new w 3 [.int .i64 2, .int .i64 5]).mono (Old.of_alloc _ _)
  have RB : Hid (Row W1 (w.heap.size + 1) 29 [.int .i64 6, .int .i64 0, .int .i64 0, .slice none 0 0, .slice none 0 0, .slice none 0 0, .slice (some ⟨w.heap.size, 0, none⟩) 2 2, .slice none 0 0]) := by
    rw [hW1]
    exact rowN 29 _ (by rw [World.size_alloc])
  have HW := hide hW1
  have F1 := hide (Aw15.in_ [2, 5] 6 0 0 ⟨Aw15.b64 (by omega), Aw15.b64 (by omega), Aw15.b64 (by omega)⟩ (by intro x hx; simp at hx; rcases hx with rfl | rfl <;> exact Aw15.b64 (by omega)) (by simp) (Aw15.mW (some ⟨w.heap.size, 0, none⟩) 2) (by simp [Aw15.mW]) W1 RA.out.rd)
  have C1 : Hid (Calls Try.prog 12 #[.agg #[.int .i64 6, .int .i64 0, .int .i64 0, .slice none 0 0, .slice none 0 0, .slice none 0 0, .slice (some ⟨w.heap.size, 0, none⟩) 2 2, .slice none 0 0]] W1 fun e w' => EncR W1 Aw15.c0 e w') := encode_any letterK Aw15.c0 (Aw15.mW (some ⟨w.heap.size, 0, none⟩) 2) W1 F1.out (by intro i x hx; simp [Aw15.c0] at hx)
  clear hW1
  go_enter Try.func8, Try.ntmps8
  go_wp2_with fail
  rw [← HW.out]
  refine C1.out.mono ?_
  rintro e w2 he
  unfold EncR at he
  rw [if_pos Aw15.g0] at he
  obtain ⟨g, cap, rest, rfl, lg, hc, RG, o2⟩ := he
  have Y := hide (By14.row RG rfl hc (by have := sealed_len Aw15.g0; omega) F1.out.text)
  have DB := hide (decB_bwd Aw15.g0 F1.out.whole)
  have O2 := hide (O1.out.trans o2)
  have RA2 := hide (RA.out.mono o2)
  have RB2 := hide (RB.out.mono o2)
  have SZ2 : Hid (w.heap.size + 1 < w2.heap.size) := by have := SZ1.out; have := o2.size; show _ < _; omega
  clear C1 RG o2 lg hc RA RB SZ1 O1 F1 HW
  generalize sealed (textT Aw15.c0) = L at *
  have C2 := hide (decode_any (some ⟨g, 0, none⟩) L.length cap L w2 Y.out)
  go_wp2_with fail
  refine C2.out.mono ?_
  rintro e w3 he
  unfold DecR at he
  rw [if_pos DB.out.1, DB.out.2] at he
  obtain ⟨m, rfl, F3, o3, new⟩ := he
  obtain ⟨b, off, ea, cx⟩ := F3.who 1 (.int .i64 5) rfl
  obtain ⟨b', off', ea', cx0⟩ := F3.who 0 (.int .i64 2) rfl
  have hcap := F3.caps.2.2.2.1
  have hb := new _ (by decide) ea
  obtain ⟨a1, k1, a2, k2, a3, k3, a4, k4, a5, k5, pa, pc, oa, oc⟩ := m
  simp only at ea ea' hcap
  subst ea
  obtain ⟨rfl, rfl⟩ : b = b' ∧ off = off' := by simpa using ea'
  have O3 := hide (O2.out.trans o3)
  have RA3 := hide (RA2.out.mono o3)
  have RB3 := hide (RB2.out.mono o3)
  have SZ3 : Hid (w.heap.size + 1 < w3.heap.size ∧ w.heap.size + 1 < b) := ⟨Nat.lt_of_lt_of_le SZ2.out o3.size, Nat.lt_of_lt_of_le SZ2.out hb⟩
  have BL : Hid (b < w3.heap.size) := World.block_lt_of_cell? w3 _ cx
  have CX := hide cx
  have CX0 := hide cx0
  have HCP : Hid (2 ≤ k4) := hcap
  clear C2 DB Y F3 o3 new cx cx0 hb ea' hcap RA2 RB2 O2 SZ2
  show _
  simp only [wdc, Aw15.c0, List.length_nil, List.length_cons, Nat.zero_add]
  -- the word that was read lies in its box; a cell of the first one's list turns
  obtain ⟨W4, hW4⟩ : ∃ W4, W4 = w3.alloc (.cells #[.int .i64 6, .int .i64 0, .int .i64 0, .slice a1 0 k1, .slice a2 0 k2, .slice a3 0 k3, .slice (some ⟨b, off, none⟩) 2 k4, .slice a5 0 k5] 29) := ⟨_, rfl⟩
  have HW4 := hide hW4
  have O4 : Hid (Old w3 W4) := by rw [hW4]; exact Old.of_alloc _ _
  have RX4 : Hid (Row W4 w3.heap.size 29 [.int .i64 6, .int .i64 0, .int .i64 0, .slice a1 0 k1, .slice a2 0 k2, .slice a3 0 k3, .slice (some ⟨b, off, none⟩) 2 k4, .slice a5 0 k5]) := by rw [hW4]; exact Row.new w3 _ _
  have RA4 := hide (RA3.out.mono O4.out)
  have RB4 := hide (RB3.out.mono O4.out)
  have RA5 : Hid (Row (W4.setCell ⟨w.heap.size, 1, none⟩ (.int .i64 2)) w.heap.size 3 [.int .i64 2, .int .i64 2]) := RA4.out.set 1 _
  have GR := grown_set W4 w.heap.size 1 (.int .i64 2)
  have RB5 := hide (RB4.out.grown GR (by omega))
  have RX5 := hide (RX4.out.grown GR (by have := SZ3.out; omega))
  have O5 : Hid (Old w (W4.setCell ⟨w.heap.size, 1, none⟩ (.int .i64 2))) := (O3.out.trans O4.out).grown GR (Nat.le_refl _)
  have cY : (W4.setCell ⟨w.heap.size, 1, none⟩ (.int .i64 2)).cell? ⟨b, off + 1, none⟩ = some (.int .i64 5) := GR.cell (O4.out.cell CX.out) (by intro e; have := SZ3.out; have e2 : b = w.heap.size := (by simpa using e); omega)
  have cY0 : (W4.setCell ⟨w.heap.size, 1, none⟩ (.int .i64 2)).cell? ⟨b, off + 0, none⟩ = some (.int .i64 2) := GR.cell (O4.out.cell CX0.out) (by intro e; have := SZ3.out; have e2 : b = w.heap.size := (by simpa using e); omega)
  have RW5 : Hid (Rd (W4.setCell ⟨w.heap.size, 1, none⟩ (.int .i64 2)) (some ⟨b, off, none⟩) (ints [2, 5])) := by
    intro i v hv
    match i, hv with
    | 0, hv => simp [ints] at hv; subst hv; exact ⟨b, off, rfl, cY0⟩
    | 1, hv => simp [ints] at hv; subst hv; exact ⟨b, off, rfl, cY⟩
    | i + 2, hv => simp [ints] at hv
  have f1 := RA4.out.free 1
  have ca := RA4.out.cell (i := 1) rfl
  have cb6 := RB4.out.cell (i := 6) rfl
  have F5 := hide (Aw15.in_ [2, 2] 6 0 0 ⟨Aw15.b64 (by omega), Aw15.b64 (by omega), Aw15.b64 (by omega)⟩ (by intro x hx; simp at hx; rcases hx with rfl; exact Aw15.b64 (by omega)) (by simp) (Aw15.mW (some ⟨w.heap.size, 0, none⟩) 2) (by simp [Aw15.mW]) _ RA5.out.rd)
  have C3 : Hid (Calls Try.prog 10 #[.agg #[.int .i64 6, .int .i64 0, .int .i64 0, .slice none 0 0, .slice none 0 0, .slice none 0 0, .slice (some ⟨w.heap.size, 0, none⟩) 2 2, .slice none 0 0]] (W4.setCell ⟨w.heap.size, 1, none⟩ (.int .i64 2)) fun e w' => e = .returned (.bool false) ∧ Old (W4.setCell ⟨w.heap.size, 1, none⟩ (.int .i64 2)) w') := by
    have := good15_any Aw15.c1 (Aw15.mW (some ⟨w.heap.size, 0, none⟩) 2) _ F5.out
    rw [Aw15.g1] at this
    exact this
  have C4 : Hid (∀ wr, Calls Try.prog 10 #[.agg #[.int .i64 8, .int .i64 1, .int .i64 12, .slice none 0 0, .slice none 0 0, .slice none 0 0, .slice none 0 0, .slice none 0 0]] wr fun e w' => e = .returned (.bool true) ∧ Old wr w') := by
    intro wr
    have := good15_any Aw15.c2 (Aw15.mW none 0) wr (Aw15.in_ [] 8 1 12 ⟨Aw15.b64 (by omega), Aw15.b64 (by omega), Aw15.b64 (by omega)⟩ (by simp) (by simp) (Aw15.mW none 0) (by simp) wr (Rd.nil _))
    rw [Aw15.g2] at this
    exact this
  have C5 : Hid (∀ wr, Old (W4.setCell ⟨w.heap.size, 1, none⟩ (.int .i64 2)) wr → Calls Try.prog 17 #[.agg #[.int .i64 6, .int .i64 0, .int .i64 0, .slice a1 0 k1, .slice a2 0 k2, .slice a3 0 k3, .slice (some ⟨b, off, none⟩) 2 k4, .slice a5 0 k5], .agg #[.int .i64 6, .int .i64 0, .int .i64 0, .slice a1 0 k1, .slice a2 0 k2, .slice a3 0 k3, .slice (some ⟨b, off, none⟩) 2 k4, .slice a5 0 k5]] wr fun e w' => e = .returned (.bool true) ∧ Old wr w') := by
    intro wr o
    have F := Aw15.in_ [2, 5] 6 0 0 ⟨Aw15.b64 (by omega), Aw15.b64 (by omega), Aw15.b64 (by omega)⟩ (by intro x hx; simp at hx; rcases hx with rfl | rfl <;> exact Aw15.b64 (by omega)) (by simp) ⟨a1, k1, a2, k2, a3, k3, some ⟨b, off, none⟩, k4, a5, k5, pa, pc, oa, oc⟩ HCP.out wr (RW5.out.mono o)
    have := same15_any Aw15.c0 Aw15.c0 _ _ wr F F
    rw [decide_eq_true rfl] at this
    exact this
  have x6 := RX5.out.cell (i := 6) rfl
  have e0 := RB5.out.cell (i := 0) rfl
  have e1 := RB5.out.cell (i := 1) rfl
  have e2 := RB5.out.cell (i := 2) rfl
  have e3 := RB5.out.cell (i := 3) rfl
  have e4 := RB5.out.cell (i := 4) rfl
  have e5 := RB5.out.cell (i := 5) rfl
  have e6 := RB5.out.cell (i := 6) rfl
  have e7 := RB5.out.cell (i := 7) rfl
  have kk : (1 : Int) ≤ 2 := by omega
  clear hW4 F5 RW5 cY0 CX CX0 GR RA3 RB3 RA4 RB4 RA5 RB5 RX4
  go_wp2_with (rw [← HW4.out])
  refine C3.out.mono ?_
  rintro e w6 ⟨rfl, o6⟩
  have O6 := hide o6
  have RX6 := hide (RX5.out.mono o6)
  clear C3 o6 x6 e0 e1 e2 e3 e4 e5 e6 e7 RX5 f1 ca cb6 cY kk
  go_wp2_with fail
  refine (C4.out _).mono ?_
  rintro e w7 ⟨rfl, o7⟩
  have O7 := hide (O6.out.trans o7)
  have RX7 := RX6.out.mono o7
  have x0 := RX7.cell (i := 0) rfl
  have x1 := RX7.cell (i := 1) rfl
  have x2 := RX7.cell (i := 2) rfl
  have x3 := RX7.cell (i := 3) rfl
  have x4 := RX7.cell (i := 4) rfl
  have x5 := RX7.cell (i := 5) rfl
  have x6 := RX7.cell (i := 6) rfl
  have x7 := RX7.cell (i := 7) rfl
  clear C4 o7 RX7 RX6
  go_wp2_with fail
  refine (C5.out _ O7.out).mono ?_
  rintro e w8 ⟨rfl, o8⟩
  have O8 := hide ((O5.out.trans O7.out).trans o8)
  clear C5 o8 x0 x1 x2 x3 x4 x5 x6 x7 O7
  go_wp2
  go_ret
  exact ⟨rfl, O8.out⟩
end Go.Proofs.Ytepchjpdfmleoaa
