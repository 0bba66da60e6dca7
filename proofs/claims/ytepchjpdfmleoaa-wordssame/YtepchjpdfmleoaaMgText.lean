/-
  MgText: 3 parts, one behind the other; what each proves, and under which conditions, its own heading says.
-/
import Derived.Test.YtepchjpdfmleoaaWordM
import Derived.Test.YtepchjpdfmleoaaMgFields
import Derived.Deep.DeepCutAuto

/-
  The document's own Text of a word (offertoryref14): its fields, one behind the other.
-/
namespace Go.Proofs.Ytepchjpdfmleoaa
open Go.RowKit Cn Pn Wn
set_option linter.unusedVariables false

namespace Wn
/-- What is asked of a word's parts, that it may be written as the document has it. -/
structure TextOk (c : Wd) : Prop where
  kind : 0 ≤ c.kind
  frm : 0 ≤ c.frm
  why : 0 ≤ c.why
  cards : c.cards.length ≤ 256 ∧ ∀ x ∈ c.cards, 0 ≤ x.who
  parcels : c.parcels.length ≤ 256 ∧ ∀ x ∈ c.parcels, 0 ≤ x.frm ∧ 0 ≤ x.to ∧ x.data.length ≤ 64
  vector : c.vector.length ≤ 256
  who : c.who.length ≤ 256 ∧ ∀ x ∈ c.who, 0 ≤ x
  openings : c.openings.length ≤ 256 ∧ ∀ x ∈ c.openings, 0 ≤ x.who ∧ x.vals.length ≤ 5
/-- The fields of the first i. -/
def pre {α : Type} (f : α → List Nat) (l : List α) (i : Nat) : List Nat := (l.take i).flatMap f
theorem pre_next {α : Type} (f : α → List Nat) (l : List α) (i : Nat) (x : α) (h : l[i]? = some x) : pre f l (i + 1) = pre f l i ++ f x := by
  unfold pre
  rw [List.take_add_one, h, Option.toList_some, List.flatMap_append]
  simp
theorem pre_all {α : Type} (f : α → List Nat) (l : List α) : pre f l l.length = l.flatMap f := by
  unfold pre
  rw [List.take_of_length_le (Nat.le_refl _)]
theorem pre_len {α : Type} (f : α → List Nat) (l : List α) (b : Nat) (h : ∀ x ∈ l, (f x).length ≤ b) : ∀ i, (pre f l i).length ≤ i * b
  | 0 => by simp [pre]
  | i + 1 => by
    have ih := pre_len f l b h i
    by_cases hi : i < l.length
    · rw [pre_next f l i l[i] (List.getElem?_eq_getElem hi), List.length_append]
      have := h _ (List.getElem_mem hi)
      rw [Nat.add_mul, Nat.one_mul]
      omega
    · have e : pre f l (i + 1) = pre f l i := by
        unfold pre
        rw [List.take_of_length_le (by omega), List.take_of_length_le (by omega)]
      rw [e, Nat.add_mul]
      omega
theorem le4_len (n : Nat) : (le4 n).length = 4 := rfl
theorem le8_len (n : Nat) : (le8 n).length = 8 := rfl
end Wn

theorem cardT_len {c : Wd} (K : TextOk c) : ∀ x ∈ c.cards, (cardT x).length ≤ 20 := by
  intro x _
  simp [cardT, le4_len, le8_len]
theorem parcelT_len {c : Wd} (K : TextOk c) : ∀ x ∈ c.parcels, (parcelT x).length ≤ 76 := by
  intro x hx
  have := (K.parcels.2 x hx).2.2
  simp [parcelT, fieldB, le4_len]
  omega
theorem flat8_len (l : List Nat) : (l.flatMap le8).length = 8 * l.length := by
  induction l with
  | nil => rfl
  | cons x r ih => rw [List.flatMap_cons, List.length_append, ih, le8_len, List.length_cons]; omega
theorem openingT_len {c : Wd} (K : TextOk c) : ∀ x ∈ c.openings, (openingT x).length ≤ 52 := by
  intro x hx
  have := (K.openings.2 x hx).2
  simp only [openingT, le4_len, List.length_append, flat8_len]
  omega
def whoT (n : Int) : List Nat := le4 n.toNat

set_option maxRecDepth 100000 in
set_option maxHeartbeats 8000000 in
theorem refText15_any (c : Wd) (m : WM) (w : World) (F : WordIn w c m) (K : TextOk c) :
    Calls Try.prog 15 #[.agg (wdc c m).toArray] w fun e w' => e = .returned (.string (Ssb.bstr (textT c))) ∧ Old w w' := by
  have HF := hide F
  have HK := hide K
  have B0 : Hid (Bxs w [(w.heap.size, 29, wdc c m)] (w.alloc (.cells (wdc c m).toArray 29))) := (Bxs.nil w).alloc 29 (wdc c m) rfl
  obtain ⟨W0, hW0⟩ : ∃ W0, W0 = w.alloc (.cells (wdc c m).toArray 29) := ⟨_, rfl⟩
  have d0 : ∀ y : After W0, y.to.cell? ⟨w.heap.size, 0, none⟩ = some (.int .i64 c.kind) := fun y => y.cell (by rw [hW0]; exact (B0.out.row 0 rfl).cell (i := 0) rfl)
  have d1 : ∀ y : After W0, y.to.cell? ⟨w.heap.size, 1, none⟩ = some (.int .i64 c.frm) := fun y => y.cell (by rw [hW0]; exact (B0.out.row 0 rfl).cell (i := 1) rfl)
  have d2 : ∀ y : After W0, y.to.cell? ⟨w.heap.size, 2, none⟩ = some (.int .i64 c.why) := fun y => y.cell (by rw [hW0]; exact (B0.out.row 0 rfl).cell (i := 2) rfl)
  have d3 : ∀ y : After W0, y.to.cell? ⟨w.heap.size, 3, none⟩ = some (.slice m.a1 c.cards.length m.c1) := fun y => y.cell (by rw [hW0]; exact (B0.out.row 0 rfl).cell (i := 3) rfl)
  rw [← hW0] at B0
  obtain ⟨n0, hn0, l0⟩ : ∃ n : Nat, c.kind = (n : Int) ∧ n ≤ 9223372036854775807 := ⟨c.kind.toNat, by have := K.kind; omega, by have := F.nums_.1; unfold B64 at this; omega⟩
  obtain ⟨n1, hn1, l1⟩ : ∃ n : Nat, c.frm = (n : Int) ∧ n ≤ 9223372036854775807 := ⟨c.frm.toNat, by have := K.frm; omega, by have := F.nums_.2.1; unfold B64 at this; omega⟩
  obtain ⟨n2, hn2, l2⟩ : ∃ n : Nat, c.why = (n : Int) ∧ n ≤ 9223372036854775807 := ⟨c.why.toNat, by have := K.why; omega, by have := F.nums_.2.2; unfold B64 at this; omega⟩
  have C0 := hide (fun y : After W0 => refSmall14_any n0 l0 y.to)
  have C1 := hide (fun y : After W0 => refSmall14_any n1 l1 y.to)
  have C2 := hide (fun y : After W0 => refSmall14_any n2 l2 y.to)
  have C3 := hide (fun y : After W0 => refSmall14_any c.cards.length F.lens.1 y.to)
  have HT : Hid (textT c = le4 n0 ++ le4 n1 ++ le4 n2 ++ le4 c.cards.length ++ c.cards.flatMap cardT ++ le4 c.parcels.length ++ c.parcels.flatMap parcelT ++ le4 c.vector.length ++ c.vector.flatMap le4 ++ le4 c.who.length ++ c.who.flatMap whoT ++ le4 c.openings.length ++ c.openings.flatMap openingT) := by
    rw [Hid, textT, hn0, hn1, hn2]; rfl
  have z0 : (Ssb.bstr (le4 n0)).size = 4 := by rw [bs_size]; rfl
  have z1 : (Ssb.bstr (le4 n1)).size = 4 := by rw [bs_size]; rfl
  have z2 : (Ssb.bstr (le4 n2)).size = 4 := by rw [bs_size]; rfl
  have z3 : (Ssb.bstr (le4 c.cards.length)).size = 4 := by rw [bs_size]; rfl
  rw [hn0] at d0
  rw [hn1] at d1
  rw [hn2] at d2
  have ne : Nonempty (After W0) := ⟨⟨_, Old.refl _⟩⟩
  obtain ⟨T0, hT⟩ : ∃ T, T = le4 n0 ++ le4 n1 ++ le4 n2 ++ le4 c.cards.length := ⟨_, rfl⟩
  have TL0 : Hid (T0.length ≤ 16) := by rw [Hid, hT]; simp [le4_len]
  rw [← hT] at HT
  have E0 : Hid (Ssb.bstr T0 = Ssb.bstr (le4 n0) ++ Ssb.bstr (le4 n1) ++ Ssb.bstr (le4 n2) ++ Ssb.bstr (le4 c.cards.length)) := by rw [Hid, hT, bs_append, bs_append, bs_append]
  have hW := hide hW0
  clear F K hn0 hn1 hn2 l0 l1 l2 hT hW0
  generalize le4 n0 = s0 at *
  generalize le4 n1 = s1 at *
  generalize le4 n2 = s2 at *
  generalize le4 c.cards.length = s3 at *
  unfold wdc at *
  go_enter Try.func15, Try.ntmps15
  go_wp2_with fail
  rw [← hW.out]
  refine wp_region_calm (by kernel_rfl) (by kernel_rfl) ?_
  repeat (go_big_quiet_step (first | with_reducible exact calm_of (C0.out _) | with_reducible exact calm_of (C1.out _) | with_reducible exact calm_of (C2.out _) | with_reducible exact calm_of (C3.out _)))
  refine wpQuiet_nil ?_
  rintro _ ⟨⟨w3, o3⟩, rfl⟩
  have B1 := hide (B0.out.mono o3)
  clear B0 C0 C1 C2 C3 d0 d1 d2 d3 ne o3 hW
  go_wp2_with fail
  rw [← E0.out]
  go_loopw [3, 4] (fun vs vi wr => ∃ i : Nat, i ≤ c.cards.length ∧ vi = .int .i64 (i : Int) ∧ vs = .string (Ssb.bstr (T0 ++ pre cardT c.cards i)) ∧ Hid (Bxs w [(w.heap.size, 29, [.int .i64 c.kind, .int .i64 c.frm, .int .i64 c.why, .slice m.a1 c.cards.length m.c1, .slice m.a2 c.parcels.length m.c2, .slice m.a3 c.vector.length m.c3, .slice m.a4 c.who.length m.c4, .slice m.a5 c.openings.length m.c5])] wr)) (fun _ vi _ => c.cards.length - (intOf vi).toNat)
  case atStart => exact ⟨0, Nat.zero_le _, rfl, by simp [pre], B1⟩
  case round =>
    clear B1
    obtain ⟨i, hi, rfl, rfl, B⟩ := hrel
    have dd := (B.out.row 0 rfl).cell (i := 3) rfl
    have SZ : (Ssb.bstr (T0 ++ pre cardT c.cards i)).size ≤ 200000 := by
      rw [bs_size, List.length_append]
      have h1 := pre_len cardT c.cards 20 (cardT_len HK.out) i
      have h2 := TL0.out
      have h3 : i * 20 ≤ 256 * 20 := Nat.mul_le_mul_right _ (by have := HK.out.cards.1; omega)
      omega
    by_cases hl : i < c.cards.length
    · have t1 : decide ((i : Int) < (c.cards.length : Int)) = true := by simp; omega
      have t1' : decide (i < c.cards.length) = true := by simpa using hl
      have q0 : (0 : Int) ≤ i := by omega
      have q1 : (i : Int) < c.cards.length := by omega
      have iw : wrap64 ((i : Int) + 1) = ((i + 1 : Nat) : Int) := by have := HK.out.cards.1; unfold wrap64; omega
      obtain ⟨x, hx⟩ : ∃ x, c.cards[i]? = some x := ⟨_, List.getElem?_eq_getElem hl⟩
      obtain ⟨b, off, e1, cx0, cy0, cz0⟩ := (HF.out.mono B.out.old).cards i x hx
      rw [e1] at dd
      have dd3 : ∀ y : After wr, y.to.cell? ⟨w.heap.size, 3, none⟩ = some (.slice (some ⟨b, off, none⟩) c.cards.length m.c1) := fun y => y.cell dd
      obtain ⟨n, hn⟩ : ∃ n : Nat, x.who = (n : Int) := ⟨x.who.toNat, by have := HK.out.cards.2 x (List.mem_of_getElem? hx); omega⟩
      obtain ⟨xb1, xb2, xb3⟩ := HF.out.cardB x (List.mem_of_getElem? hx)
      rw [hn] at cx0 xb1
      unfold B64 at xb1
      have cx : ∀ y : After wr, y.to.cell? ⟨b, off + i * 3, none⟩ = some (.int .i64 (n : Int)) := fun y => y.cell cx0
      have cy : ∀ y : After wr, y.to.cell? ⟨b, off + i * 3 + 1, none⟩ = some (.int .u64 (x.lock : Nat)) := fun y => y.cell cy0
      have cz : ∀ y : After wr, y.to.cell? ⟨b, off + i * 3 + 2, none⟩ = some (.int .u64 (x.key : Nat)) := fun y => y.cell cz0
      have C1 := hide (fun y : After wr => refSmall14_any n (by omega) y.to)
      have C2 := hide (fun y : After wr => refGreat14_any x.lock xb2 y.to)
      have C3 := hide (fun y : After wr => refGreat14_any x.key xb3 y.to)
      have E : Hid (Ssb.bstr (T0 ++ pre cardT c.cards (i + 1)) = Ssb.bstr (T0 ++ pre cardT c.cards i) ++ (Ssb.bstr (le4 n) ++ Ssb.bstr (le8 x.lock) ++ Ssb.bstr (le8 x.key))) := by
        rw [Hid, pre_next cardT c.cards i x hx, bs_append, bs_append, bs_append, List.append_assoc]
        unfold cardT
        rw [hn, Int.toNat_natCast]
      have z1 : (Ssb.bstr (le4 n)).size = 4 := by rw [bs_size]; rfl
      have z2 : (Ssb.bstr (le8 x.lock)).size = 8 := by rw [bs_size]; rfl
      have z3 : (Ssb.bstr (le8 x.key)).size = 8 := by rw [bs_size]; rfl
      clear hx e1 hn xb1 xb2 xb3 cx0 cy0 cz0
      obtain ⟨xw, xl, xk⟩ := x
      simp only at cx cy cz C1 C2 C3 E z1 z2 z3
      generalize le4 n = s1 at *
      generalize le8 xl = s2 at *
      generalize le8 xk = s3 at *
      have ne : Nonempty (After wr) := ⟨⟨_, Old.refl _⟩⟩
      go_wp2_with fail
      refine wp_region_calm (by kernel_rfl) (by kernel_rfl) ?_
      repeat (go_big_quiet_step (first | with_reducible exact calm_of (C1.out _) | with_reducible exact calm_of (C2.out _) | with_reducible exact calm_of (C3.out _)))
      refine wpQuiet_nil ?_
      rintro _ ⟨⟨w3, o3⟩, rfl⟩
      have B2 := hide (B.out.mono o3)
      clear B C1 C2 C3 o3 ne
      go_wp2_with fail
      try rw [iw]
      rw [← E.out]
      exact ⟨⟨i + 1, by omega, by simp, rfl, B2⟩, by simp [intOf]; omega⟩
    · obtain rfl : i = c.cards.length := by omega
      have t1 : decide ((c.cards.length : Int) < (c.cards.length : Int)) = false := by simp
      have t1' : decide (c.cards.length < c.cards.length) = false := by simp
      clear hl hi
      rw [pre_all] at SZ ⊢
      have dn := (B.out.row 0 rfl).cell (i := 4) rfl
      have C1 := hide (refSmall14_any c.parcels.length HF.out.lens.2.1 wr)
      obtain ⟨T1, hT2⟩ : ∃ TT, TT = T0 ++ c.cards.flatMap cardT ++ le4 c.parcels.length := ⟨_, rfl⟩
      have E : Hid (Ssb.bstr T1 = Ssb.bstr (T0 ++ c.cards.flatMap cardT) ++ Ssb.bstr (le4 c.parcels.length)) := by rw [Hid, hT2, bs_append]
      have TL1 : Hid (T1.length ≤ 5140) := by
        rw [Hid, hT2, List.length_append, List.length_append, le4_len]
        have h1 := pre_len cardT c.cards 20 (cardT_len HK.out) c.cards.length
        rw [pre_all] at h1
        have h2 := TL0.out
        have h3 : c.cards.length * 20 ≤ 256 * 20 := Nat.mul_le_mul_right _ (by have := HK.out.cards.1; omega)
        omega
      rw [← hT2] at HT
      have z1 : (Ssb.bstr (le4 c.parcels.length)).size = 4 := by rw [bs_size]; rfl
      clear hT2
      generalize le4 c.parcels.length = s1 at *
      go_wp2_with fail
      refine C1.out.mono ?_
      rintro e w3 ⟨rfl, o3⟩
      have B1 := hide (B.out.mono o3)
      clear B C1 o3 TL0 dn dd
      go_wp2_with fail
      rw [← E.out]
      clear E z1 SZ t1 t1'
      go_loopw [3, 5] (fun vs vi wr => ∃ i : Nat, i ≤ c.parcels.length ∧ vi = .int .i64 (i : Int) ∧ vs = .string (Ssb.bstr (T1 ++ pre parcelT c.parcels i)) ∧ Hid (Bxs w [(w.heap.size, 29, [.int .i64 c.kind, .int .i64 c.frm, .int .i64 c.why, .slice m.a1 c.cards.length m.c1, .slice m.a2 c.parcels.length m.c2, .slice m.a3 c.vector.length m.c3, .slice m.a4 c.who.length m.c4, .slice m.a5 c.openings.length m.c5])] wr)) (fun _ vi _ => c.parcels.length - (intOf vi).toNat)
      case atStart => exact ⟨0, Nat.zero_le _, rfl, by simp [pre], B1⟩
      case round =>
        clear B1
        obtain ⟨i, hi, rfl, rfl, B⟩ := hrel
        have dd := (B.out.row 0 rfl).cell (i := 4) rfl
        have SZ : (Ssb.bstr (T1 ++ pre parcelT c.parcels i)).size ≤ 200000 := by
          rw [bs_size, List.length_append]
          have h1 := pre_len parcelT c.parcels 76 (parcelT_len HK.out) i
          have h2 := TL1.out
          have h3 : i * 76 ≤ 256 * 76 := Nat.mul_le_mul_right _ (by have := HK.out.parcels.1; omega)
          omega
        by_cases hl : i < c.parcels.length
        · have t1 : decide ((i : Int) < (c.parcels.length : Int)) = true := by simp; omega
          have t1' : decide (i < c.parcels.length) = true := by simpa using hl
          have q0 : (0 : Int) ≤ i := by omega
          have q1 : (i : Int) < c.parcels.length := by omega
          have iw : wrap64 ((i : Int) + 1) = ((i + 1 : Nat) : Int) := by have := HK.out.parcels.1; unfold wrap64; omega
          obtain ⟨x, hx⟩ : ∃ x, c.parcels[i]? = some x := ⟨_, List.getElem?_eq_getElem hl⟩
          obtain ⟨⟨b, off, e1, cx0, cy0, cz0⟩, rd⟩ := (HF.out.mono B.out.old).parcels i x hx
          rw [e1] at dd
          have dd3 : ∀ y : After wr, y.to.cell? ⟨w.heap.size, 4, none⟩ = some (.slice (some ⟨b, off, none⟩) c.parcels.length m.c2) := fun y => y.cell dd
          have kx := HK.out.parcels.2 x (List.mem_of_getElem? hx)
          obtain ⟨n, hn⟩ : ∃ n : Nat, x.frm = (n : Int) := ⟨x.frm.toNat, by omega⟩
          obtain ⟨n2, hn2⟩ : ∃ n : Nat, x.to = (n : Int) := ⟨x.to.toNat, by omega⟩
          obtain ⟨xb1, xb2, xb3, xb4⟩ := HF.out.parcelB x (List.mem_of_getElem? hx)
          rw [hn] at cx0 xb1
          rw [hn2] at cy0 xb2
          unfold B64 at xb1 xb2
          have cx : ∀ y : After wr, y.to.cell? ⟨b, off + i * 3, none⟩ = some (.int .i64 (n : Int)) := fun y => y.cell cx0
          have cy : ∀ y : After wr, y.to.cell? ⟨b, off + i * 3 + 1, none⟩ = some (.int .i64 (n2 : Int)) := fun y => y.cell cy0
          have cz : ∀ y : After wr, y.to.cell? ⟨b, off + i * 3 + 2, none⟩ = some (.slice (m.pa i) x.data.length (m.pc i)) := fun y => y.cell cz0
          have C1 := hide (fun y : After wr => refSmall14_any n (by omega) y.to)
          have C2 := hide (fun y : After wr => refSmall14_any n2 (by omega) y.to)
          have C3 := hide (fun y : After wr => refBytes14_any x.data (m.pa i) x.data.length (m.pc i) xb3 rfl (by omega) y.to (rd.mono y.old))
          have E : Hid (Ssb.bstr (T1 ++ pre parcelT c.parcels (i + 1)) = Ssb.bstr (T1 ++ pre parcelT c.parcels i) ++ (Ssb.bstr (le4 n) ++ Ssb.bstr (le4 n2) ++ Ssb.bstr (fieldB x.data))) := by
            rw [Hid, pre_next parcelT c.parcels i x hx, bs_append, bs_append, bs_append, List.append_assoc]
            unfold parcelT
            rw [hn, hn2, Int.toNat_natCast, Int.toNat_natCast]
          have z1 : (Ssb.bstr (le4 n)).size = 4 := by rw [bs_size]; rfl
          have z2 : (Ssb.bstr (le4 n2)).size = 4 := by rw [bs_size]; rfl
          have z3 : (Ssb.bstr (fieldB x.data)).size ≤ 68 := by rw [bs_size]; unfold fieldB; rw [List.length_append, le4_len]; omega
          clear hx e1 hn hn2 xb1 xb2 xb3 xb4 cx0 cy0 cz0 kx rd
          obtain ⟨xw, xl, xk⟩ := x
          simp only at cx cy cz C1 C2 C3 E z1 z2 z3
          generalize le4 n = s1 at *
          generalize le4 n2 = s2 at *
          generalize fieldB xk = s3 at *
          have ne : Nonempty (After wr) := ⟨⟨_, Old.refl _⟩⟩
          go_wp2_with fail
          refine wp_region_calm (by kernel_rfl) (by kernel_rfl) ?_
          repeat (go_big_quiet_step (first | with_reducible exact calm_of (C1.out _) | with_reducible exact calm_of (C2.out _) | with_reducible exact calm_of (C3.out _)))
          refine wpQuiet_nil ?_
          rintro _ ⟨⟨w3, o3⟩, rfl⟩
          have B2 := hide (B.out.mono o3)
          clear B C1 C2 C3 o3 ne
          go_wp2_with fail
          try rw [iw]
          rw [← E.out]
          exact ⟨⟨i + 1, by omega, by simp, rfl, B2⟩, by simp [intOf]; omega⟩
        · obtain rfl : i = c.parcels.length := by omega
          have t1 : decide ((c.parcels.length : Int) < (c.parcels.length : Int)) = false := by simp
          have t1' : decide (c.parcels.length < c.parcels.length) = false := by simp
          clear hl hi
          rw [pre_all] at SZ ⊢
          have dn := (B.out.row 0 rfl).cell (i := 5) rfl
          have C1 := hide (refSmall14_any c.vector.length HF.out.lens.2.2.1 wr)
          obtain ⟨T2, hT2⟩ : ∃ TT, TT = T1 ++ c.parcels.flatMap parcelT ++ le4 c.vector.length := ⟨_, rfl⟩
          have E : Hid (Ssb.bstr T2 = Ssb.bstr (T1 ++ c.parcels.flatMap parcelT) ++ Ssb.bstr (le4 c.vector.length)) := by rw [Hid, hT2, bs_append]
          have TL2 : Hid (T2.length ≤ 24600) := by
            rw [Hid, hT2, List.length_append, List.length_append, le4_len]
            have h1 := pre_len parcelT c.parcels 76 (parcelT_len HK.out) c.parcels.length
            rw [pre_all] at h1
            have h2 := TL1.out
            have h3 : c.parcels.length * 76 ≤ 256 * 76 := Nat.mul_le_mul_right _ (by have := HK.out.parcels.1; omega)
            omega
          rw [← hT2] at HT
          have z1 : (Ssb.bstr (le4 c.vector.length)).size = 4 := by rw [bs_size]; rfl
          clear hT2
          generalize le4 c.vector.length = s1 at *
          go_wp2_with fail
          refine C1.out.mono ?_
          rintro e w3 ⟨rfl, o3⟩
          have B1 := hide (B.out.mono o3)
          clear B C1 o3 TL1 dn dd
          go_wp2_with fail
          rw [← E.out]
          clear E z1 SZ t1 t1'
          go_loopw [3, 6] (fun vs vi wr => ∃ i : Nat, i ≤ c.vector.length ∧ vi = .int .i64 (i : Int) ∧ vs = .string (Ssb.bstr (T2 ++ pre le4 c.vector i)) ∧ Hid (Bxs w [(w.heap.size, 29, [.int .i64 c.kind, .int .i64 c.frm, .int .i64 c.why, .slice m.a1 c.cards.length m.c1, .slice m.a2 c.parcels.length m.c2, .slice m.a3 c.vector.length m.c3, .slice m.a4 c.who.length m.c4, .slice m.a5 c.openings.length m.c5])] wr)) (fun _ vi _ => c.vector.length - (intOf vi).toNat)
          case atStart => exact ⟨0, Nat.zero_le _, rfl, by simp [pre], B1⟩
          case round =>
            clear B1
            obtain ⟨i, hi, rfl, rfl, B⟩ := hrel
            have dd := (B.out.row 0 rfl).cell (i := 5) rfl
            have SZ : (Ssb.bstr (T2 ++ pre le4 c.vector i)).size ≤ 200000 := by
              rw [bs_size, List.length_append]
              have h1 := pre_len le4 c.vector 4 (fun _ _ => Nat.le_refl 4) i
              have h2 := TL2.out
              have h3 : i * 4 ≤ 256 * 4 := Nat.mul_le_mul_right _ (by have := HK.out.vector; omega)
              omega
            by_cases hl : i < c.vector.length
            · have t1 : decide ((i : Int) < (c.vector.length : Int)) = true := by simp; omega
              have t1' : decide (i < c.vector.length) = true := by simpa using hl
              have q0 : (0 : Int) ≤ i := by omega
              have q1 : (i : Int) < c.vector.length := by omega
              have iw : wrap64 ((i : Int) + 1) = ((i + 1 : Nat) : Int) := by have := HK.out.vector; unfold wrap64; omega
              obtain ⟨x, hx⟩ : ∃ x, c.vector[i]? = some x := ⟨_, List.getElem?_eq_getElem hl⟩
              obtain ⟨b, off, z, e1, Hz, cz⟩ := ((HF.out.mono B.out.old).vector).num (i := i) hl
              obtain rfl : z = x := by have := Hz.out; rw [hx] at this; exact (Option.some.inj this).symm
              rw [e1] at dd
              have zl := HF.out.vectorB z (List.mem_of_getElem? hx)
              have z64 : z ≤ 9223372036854775807 := Nat.le_of_lt (Nat.lt_trans zl (by decide))
              have e0 := wi64 z64
              have e0' := w64 z64
              have C1 := hide (refSmall14_any z z64 wr)
              have E : Hid (Ssb.bstr (T2 ++ pre le4 c.vector (i + 1)) = Ssb.bstr (T2 ++ pre le4 c.vector i) ++ Ssb.bstr (le4 z)) := by
                rw [Hid, pre_next le4 c.vector i z hx, bs_append, List.append_assoc]
              have z1 : (Ssb.bstr (le4 z)).size = 4 := by rw [bs_size]; rfl
              clear hx e1 Hz zl z64
              generalize le4 z = s1 at *
              go_wp2_with fail
              refine C1.out.mono ?_
              rintro e w3 ⟨rfl, o3⟩
              have B2 := hide (B.out.mono o3)
              clear B C1 o3
              go_wp2_with fail
              try rw [iw]
              rw [← E.out]
              exact ⟨⟨i + 1, by omega, by simp, rfl, B2⟩, by simp [intOf]; omega⟩
            · obtain rfl : i = c.vector.length := by omega
              have t1 : decide ((c.vector.length : Int) < (c.vector.length : Int)) = false := by simp
              have t1' : decide (c.vector.length < c.vector.length) = false := by simp
              clear hl hi
              rw [pre_all] at SZ ⊢
              have dn := (B.out.row 0 rfl).cell (i := 6) rfl
              have C1 := hide (refSmall14_any c.who.length HF.out.lens.2.2.2.1 wr)
              obtain ⟨T3, hT2⟩ : ∃ TT, TT = T2 ++ c.vector.flatMap le4 ++ le4 c.who.length := ⟨_, rfl⟩
              have E : Hid (Ssb.bstr T3 = Ssb.bstr (T2 ++ c.vector.flatMap le4) ++ Ssb.bstr (le4 c.who.length)) := by rw [Hid, hT2, bs_append]
              have TL3 : Hid (T3.length ≤ 25628) := by
                rw [Hid, hT2, List.length_append, List.length_append, le4_len]
                have h1 := pre_len le4 c.vector 4 (fun _ _ => Nat.le_refl 4) c.vector.length
                rw [pre_all] at h1
                have h2 := TL2.out
                have h3 : c.vector.length * 4 ≤ 256 * 4 := Nat.mul_le_mul_right _ (by have := HK.out.vector; omega)
                omega
              rw [← hT2] at HT
              have z1 : (Ssb.bstr (le4 c.who.length)).size = 4 := by rw [bs_size]; rfl
              clear hT2
              generalize le4 c.who.length = s1 at *
              go_wp2_with fail
              refine C1.out.mono ?_
              rintro e w3 ⟨rfl, o3⟩
              have B1 := hide (B.out.mono o3)
              clear B C1 o3 TL2 dn dd
              go_wp2_with fail
              rw [← E.out]
              clear E z1 SZ t1 t1'
              go_loopw [3, 7] (fun vs vi wr => ∃ i : Nat, i ≤ c.who.length ∧ vi = .int .i64 (i : Int) ∧ vs = .string (Ssb.bstr (T3 ++ pre whoT c.who i)) ∧ Hid (Bxs w [(w.heap.size, 29, [.int .i64 c.kind, .int .i64 c.frm, .int .i64 c.why, .slice m.a1 c.cards.length m.c1, .slice m.a2 c.parcels.length m.c2, .slice m.a3 c.vector.length m.c3, .slice m.a4 c.who.length m.c4, .slice m.a5 c.openings.length m.c5])] wr)) (fun _ vi _ => c.who.length - (intOf vi).toNat)
              case atStart => exact ⟨0, Nat.zero_le _, rfl, by simp [pre], B1⟩
              case round =>
                clear B1
                obtain ⟨i, hi, rfl, rfl, B⟩ := hrel
                have dd := (B.out.row 0 rfl).cell (i := 6) rfl
                have SZ : (Ssb.bstr (T3 ++ pre whoT c.who i)).size ≤ 200000 := by
                  rw [bs_size, List.length_append]
                  have h1 := pre_len whoT c.who 4 (fun _ _ => Nat.le_refl 4) i
                  have h2 := TL3.out
                  have h3 : i * 4 ≤ 256 * 4 := Nat.mul_le_mul_right _ (by have := HK.out.who.1; omega)
                  omega
                by_cases hl : i < c.who.length
                · have t1 : decide ((i : Int) < (c.who.length : Int)) = true := by simp; omega
                  have t1' : decide (i < c.who.length) = true := by simpa using hl
                  have q0 : (0 : Int) ≤ i := by omega
                  have q1 : (i : Int) < c.who.length := by omega
                  have iw : wrap64 ((i : Int) + 1) = ((i + 1 : Nat) : Int) := by have := HK.out.who.1; unfold wrap64; omega
                  obtain ⟨x, hx⟩ : ∃ x, c.who[i]? = some x := ⟨_, List.getElem?_eq_getElem hl⟩
                  obtain ⟨b, off, e1, cz0⟩ := rd_int ((HF.out.mono B.out.old).who) (i := i) hl
                  have hg : c.who.getD i 0 = x := by simp [List.getD, hx]
                  rw [hg] at cz0
                  rw [e1] at dd
                  obtain ⟨n, hn⟩ : ∃ n : Nat, x = (n : Int) := ⟨x.toNat, by have := HK.out.who.2 x (List.mem_of_getElem? hx); omega⟩
                  have xb := HF.out.whoB x (List.mem_of_getElem? hx)
                  unfold B64 at xb
                  have C1 := hide (refSmall14_any n (by omega) wr)
                  have E : Hid (Ssb.bstr (T3 ++ pre whoT c.who (i + 1)) = Ssb.bstr (T3 ++ pre whoT c.who i) ++ Ssb.bstr (le4 n)) := by
                    rw [Hid, pre_next whoT c.who i x hx, bs_append, List.append_assoc]
                    unfold whoT
                    rw [hn, Int.toNat_natCast]
                  have z1 : (Ssb.bstr (le4 n)).size = 4 := by rw [bs_size]; rfl
                  subst hn
                  have cz : wr.cell? ⟨b, off + i, none⟩ = some (.int .i64 (n : Int)) := cz0
                  clear hx e1 hg xb cz0
                  generalize le4 n = s1 at *
                  go_wp2_with fail
                  refine C1.out.mono ?_
                  rintro e w3 ⟨rfl, o3⟩
                  have B2 := hide (B.out.mono o3)
                  clear B C1 o3
                  go_wp2_with fail
                  try rw [iw]
                  rw [← E.out]
                  exact ⟨⟨i + 1, by omega, by simp, rfl, B2⟩, by simp [intOf]; omega⟩
                · obtain rfl : i = c.who.length := by omega
                  have t1 : decide ((c.who.length : Int) < (c.who.length : Int)) = false := by simp
                  have t1' : decide (c.who.length < c.who.length) = false := by simp
                  clear hl hi
                  rw [pre_all] at SZ ⊢
                  have dn := (B.out.row 0 rfl).cell (i := 7) rfl
                  have C1 := hide (refSmall14_any c.openings.length HF.out.lens.2.2.2.2 wr)
                  obtain ⟨T4, hT2⟩ : ∃ TT, TT = T3 ++ c.who.flatMap whoT ++ le4 c.openings.length := ⟨_, rfl⟩
                  have E : Hid (Ssb.bstr T4 = Ssb.bstr (T3 ++ c.who.flatMap whoT) ++ Ssb.bstr (le4 c.openings.length)) := by rw [Hid, hT2, bs_append]
                  have TL4 : Hid (T4.length ≤ 26656) := by
                    rw [Hid, hT2, List.length_append, List.length_append, le4_len]
                    have h1 := pre_len whoT c.who 4 (fun _ _ => Nat.le_refl 4) c.who.length
                    rw [pre_all] at h1
                    have h2 := TL3.out
                    have h3 : c.who.length * 4 ≤ 256 * 4 := Nat.mul_le_mul_right _ (by have := HK.out.who.1; omega)
                    omega
                  rw [← hT2] at HT
                  have z1 : (Ssb.bstr (le4 c.openings.length)).size = 4 := by rw [bs_size]; rfl
                  clear hT2
                  generalize le4 c.openings.length = s1 at *
                  go_wp2_with fail
                  refine C1.out.mono ?_
                  rintro e w3 ⟨rfl, o3⟩
                  have B1 := hide (B.out.mono o3)
                  clear B C1 o3 TL3 dn dd
                  go_wp2_with fail
                  rw [← E.out]
                  clear E z1 SZ t1 t1'
                  go_loopw [3, 8] (fun vs vi wr => ∃ i : Nat, i ≤ c.openings.length ∧ vi = .int .i64 (i : Int) ∧ vs = .string (Ssb.bstr (T4 ++ pre openingT c.openings i)) ∧ Hid (Bxs w [(w.heap.size, 29, [.int .i64 c.kind, .int .i64 c.frm, .int .i64 c.why, .slice m.a1 c.cards.length m.c1, .slice m.a2 c.parcels.length m.c2, .slice m.a3 c.vector.length m.c3, .slice m.a4 c.who.length m.c4, .slice m.a5 c.openings.length m.c5])] wr)) (fun _ vi _ => c.openings.length - (intOf vi).toNat)
                  case atStart => exact ⟨0, Nat.zero_le _, rfl, by simp [pre], B1⟩
                  case round =>
                    clear B1
                    obtain ⟨i, hi, rfl, rfl, B⟩ := hrel
                    have dd := (B.out.row 0 rfl).cell (i := 7) rfl
                    have SZ : (Ssb.bstr (T4 ++ pre openingT c.openings i)).size ≤ 200000 := by
                      rw [bs_size, List.length_append]
                      have h1 := pre_len openingT c.openings 52 (openingT_len HK.out) i
                      have h2 := TL4.out
                      have h3 : i * 52 ≤ 256 * 52 := Nat.mul_le_mul_right _ (by have := HK.out.openings.1; omega)
                      omega
                    by_cases hl : i < c.openings.length
                    · have t1 : decide ((i : Int) < (c.openings.length : Int)) = true := by simp; omega
                      have t1' : decide (i < c.openings.length) = true := by simpa using hl
                      have q0 : (0 : Int) ≤ i := by omega
                      have q1 : (i : Int) < c.openings.length := by omega
                      have iw : wrap64 ((i : Int) + 1) = ((i + 1 : Nat) : Int) := by have := HK.out.openings.1; unfold wrap64; omega
                      obtain ⟨x, hx⟩ : ∃ x, c.openings[i]? = some x := ⟨_, List.getElem?_eq_getElem hl⟩
                      obtain ⟨⟨b, off, e1, cx0, cy0, cz0⟩, rd⟩ := (HF.out.mono B.out.old).openings i x hx
                      rw [e1] at dd
                      have kx := HK.out.openings.2 x (List.mem_of_getElem? hx)
                      obtain ⟨n, hn⟩ : ∃ n : Nat, x.who = (n : Int) := ⟨x.who.toNat, by omega⟩
                      obtain ⟨xb1, xb2, xb3⟩ := HF.out.openingB x (List.mem_of_getElem? hx)
                      have PN := hide (pre_next openingT c.openings i x hx)
                      rw [hn] at cx0 xb1
                      unfold B64 at xb1
                      obtain ⟨xw, xo, xv⟩ := x
                      simp only at hn cx0 cy0 cz0 rd kx xb2 xb3
                      have n64 : n ≤ 9223372036854775807 := by omega
                      obtain ⟨q, hq⟩ : ∃ q : Nat, q = if xo then 1 else 0 := ⟨_, rfl⟩
                      have q2 : q ≤ 1 := by rw [hq]; split <;> omega
                      have HQ := hide hq
                      have OT : Hid (openingT ⟨xw, xo, xv⟩ = le4 n ++ le4 q ++ le4 xv.length ++ xv.flatMap le8) := by
                        rw [Hid, openingT, hn, hq]; rfl
                      have BO := hide (B.out.alloc 53 [.int .i64 (n : Int), .bool xo, .slice (m.oa i) xv.length (m.oc i)] rfl)
                      have RX := hide (HF.out.openings i ⟨xw, xo, xv⟩ hx).2
                      have HX2 := hide xb2
                      have VL : xv.length ≤ 5 := kx.2
                      have b1 := (BO.out.row 1 rfl).cell (i := 1) rfl
                      clear hx e1 hn xb1 xb2 xb3 hq kx rd
                      go_upto_if 160 with fail
                      go_cut [10] from 159 to 160 (fun v wx => v = .int .i64 (q : Nat) ∧ wx = wr.alloc (.cells #[.int .i64 (n : Int), .bool xo, .slice (m.oa i) xv.length (m.oc i)] 53))
                      case first =>
                        cases xo
                        · obtain rfl : q = 0 := HQ.out
                          go_wp2_with fail
                          go_meet
                          exact ⟨rfl, rfl⟩
                        · obtain rfl : q = 1 := HQ.out
                          go_wp2_with fail
                          go_meet
                          exact ⟨rfl, rfl⟩
                      case rest =>
                        obtain ⟨rfl, rfl⟩ := hcut
                        obtain ⟨g, hg⟩ : ∃ g, g = wr.heap.size := ⟨_, rfl⟩
                        rw [← hg] at BO
                        have W1E : Hid (∃ W1, W1 = wr.alloc (.cells #[.int .i64 (n : Int), .bool xo, .slice (m.oa i) xv.length (m.oc i)] 53)) := ⟨_, rfl⟩
                        obtain ⟨W1, hW1⟩ := W1E.out
                        rw [← hW1] at BO ⊢
                        have c0 : ∀ y : After W1, y.to.cell? ⟨g, 0, none⟩ = some (.int .i64 (n : Int)) := fun y => y.cell ((BO.out.row 1 rfl).cell (i := 0) rfl)
                        have c2 : ∀ y : After W1, y.to.cell? ⟨g, 2, none⟩ = some (.slice (m.oa i) xv.length (m.oc i)) := fun y => y.cell ((BO.out.row 1 rfl).cell (i := 2) rfl)
                        have C1 := hide (fun y : After W1 => refSmall14_any n n64 y.to)
                        have C2 := hide (fun y : After W1 => refSmall14_any q (by omega) y.to)
                        have C3 := hide (fun y : After W1 => refSmall14_any xv.length (by omega) y.to)
                        obtain ⟨U, hU⟩ : ∃ U, U = T4 ++ pre openingT c.openings i ++ (le4 n ++ le4 q ++ le4 xv.length) := ⟨_, rfl⟩
                        have UL : Hid (U.length ≤ 200012) := by
                          rw [Hid, hU, List.length_append, List.length_append (bs := le4 xv.length), List.length_append (bs := le4 q), le4_len, le4_len, le4_len]
                          rw [bs_size] at SZ
                          omega
                        have E : Hid (Ssb.bstr U = Ssb.bstr (T4 ++ pre openingT c.openings i) ++ (Ssb.bstr (le4 n) ++ Ssb.bstr (le4 q) ++ Ssb.bstr (le4 xv.length))) := by
                          rw [Hid, hU, bs_append, bs_append, bs_append]
                        have E2 : Hid (T4 ++ pre openingT c.openings (i + 1) = U ++ xv.flatMap le8) := by
                          rw [Hid, PN.out, OT.out, hU]
                          simp only [List.append_assoc]
                        have z1 : (Ssb.bstr (le4 n)).size = 4 := by rw [bs_size]; rfl
                        have z2 : (Ssb.bstr (le4 q)).size = 4 := by rw [bs_size]; rfl
                        have z3 : (Ssb.bstr (le4 xv.length)).size = 4 := by rw [bs_size]; rfl
                        have q64 : (q : Int) ≤ 1 := by omega
                        have q00 : (0 : Int) ≤ q := by omega
                        clear OT PN HQ hW1 W1E hU B q2
                        generalize le4 n = s1 at *
                        generalize le4 q = s2 at *
                        generalize le4 xv.length = s3 at *
                        rw [← hg]
                        have HG := hide hg
                        clear hg
                        go_upto_region 29 with fail
                        go_cut [3] from 161 to 173 (fun v wx => v = .string (Ssb.bstr U) ∧ Hid (Bxs w [(w.heap.size, 29, [.int .i64 c.kind, .int .i64 c.frm, .int .i64 c.why, .slice m.a1 c.cards.length m.c1, .slice m.a2 c.parcels.length m.c2, .slice m.a3 c.vector.length m.c3, .slice m.a4 c.who.length m.c4, .slice m.a5 c.openings.length m.c5]), (g, 53, [.int .i64 (n : Int), .bool xo, .slice (m.oa i) xv.length (m.oc i)])] wx))
                        case first =>
                          have ne : Nonempty (After W1) := ⟨⟨_, Old.refl _⟩⟩
                          go_wp2_with fail
                          refine wp_region_calm (by kernel_rfl) (by kernel_rfl) ?_
                          repeat (go_big_quiet_step (first | with_reducible exact calm_of (C1.out _) | with_reducible exact calm_of (C2.out _) | with_reducible exact calm_of (C3.out _)))
                          refine wpQuiet_nil ?_
                          rintro _ ⟨⟨w3, o3⟩, rfl⟩
                          have B2 := hide (BO.out.mono o3)
                          clear BO C1 C2 C3 o3 ne c0 c2
                          go_wp2_with fail
                          go_meet
                          exact ⟨by rw [E.out], B2⟩
                        case rest =>
                        obtain ⟨rfl, B2⟩ := hcut
                        clear BO C1 C2 C3 c0 c2
                        go_wp2_with fail
                        clear E SZ b1 n64 q64 q00 z1 z2 z3
                        have HVL := hide VL
                        clear VL
                        go_loopw [3, 11] (fun vs vj wr2 => ∃ j : Nat, j ≤ xv.length ∧ vj = .int .i64 (j : Int) ∧ vs = .string (Ssb.bstr (U ++ pre le8 xv j)) ∧ Hid (Bxs w [(w.heap.size, 29, [.int .i64 c.kind, .int .i64 c.frm, .int .i64 c.why, .slice m.a1 c.cards.length m.c1, .slice m.a2 c.parcels.length m.c2, .slice m.a3 c.vector.length m.c3, .slice m.a4 c.who.length m.c4, .slice m.a5 c.openings.length m.c5]), (g, 53, [.int .i64 (n : Int), .bool xo, .slice (m.oa i) xv.length (m.oc i)])] wr2)) (fun _ vj _ => xv.length - (intOf vj).toNat)
                        case atStart => exact ⟨0, Nat.zero_le _, rfl, by simp [pre], B2⟩
                        case round =>
                          clear B2
                          rename_i wrx
                          obtain ⟨j, hj, rfl, rfl, B⟩ := hrel
                          have d2 := (B.out.row 1 rfl).cell (i := 2) rfl
                          have SZ : (Ssb.bstr (U ++ pre le8 xv j)).size ≤ 300000 := by
                            rw [bs_size, List.length_append]
                            have h1 := pre_len le8 xv 8 (fun _ _ => Nat.le_refl 8) j
                            have h2 := UL.out
                            have h3 := HVL.out
                            omega
                          by_cases hl2 : j < xv.length
                          · have t1 : decide ((j : Int) < (xv.length : Int)) = true := by simp; omega
                            have t1' : decide (j < xv.length) = true := by simpa using hl2
                            have q0 : (0 : Int) ≤ j := by omega
                            have q1 : (j : Int) < xv.length := by omega
                            have iw2 : wrap64 ((j : Int) + 1) = ((j + 1 : Nat) : Int) := by have := HVL.out; unfold wrap64; omega
                            obtain ⟨b2, off2, z, e2, Hz, cz⟩ := (RX.out.mono B.out.old).num (i := j) hl2
                            rw [e2] at d2
                            have zl := HX2.out z (List.mem_of_getElem? Hz.out)
                            have C1 := hide (refGreat14_any z zl wr)
                            have E : Hid (Ssb.bstr (U ++ pre le8 xv (j + 1)) = Ssb.bstr (U ++ pre le8 xv j) ++ Ssb.bstr (le8 z)) := by
                              rw [Hid, pre_next le8 xv j z Hz.out, bs_append, List.append_assoc]
                            have z1 : (Ssb.bstr (le8 z)).size = 8 := by rw [bs_size]; rfl
                            clear e2 Hz zl
                            generalize le8 z = s4 at *
                            go_wp2_with fail
                            refine C1.out.mono ?_
                            rintro e w4 ⟨rfl, o4⟩
                            have B3 := hide (B.out.mono o4)
                            clear B C1 o4
                            go_wp2_with (go_big_round)
                            rw [iw2, ← E.out]
                            exact ⟨⟨j + 1, hl2, rfl, rfl, B3⟩, Nat.sub_lt_sub_left hl2 (Nat.lt_succ_self j)⟩
                          · obtain rfl : j = xv.length := by omega
                            have t1 : decide ((xv.length : Int) < (xv.length : Int)) = false := by simp
                            have t1' : decide (xv.length < xv.length) = false := by simp
                            have B3 := hide (B.out.take 1)
                            clear hl2 hj
                            rw [pre_all] at SZ ⊢
                            have F2 : Hid (Ssb.bstr (U ++ xv.flatMap le8) = Ssb.bstr (T4 ++ pre openingT c.openings (i + 1))) := by rw [Hid, E2.out]
                            clear E2
                            go_wp2_with fail
                            try rw [iw]
                            rw [F2.out]
                            exact ⟨⟨i + 1, by omega, by simp, rfl, B3⟩, by simp [intOf]; omega⟩
                    · obtain rfl : i = c.openings.length := by omega
                      have t1 : decide ((c.openings.length : Int) < (c.openings.length : Int)) = false := by simp
                      have t1' : decide (c.openings.length < c.openings.length) = false := by simp
                      clear hl hi
                      rw [pre_all] at SZ ⊢
                      have E : Hid (textT c = T4 ++ c.openings.flatMap openingT) := HT.out
                      go_wp2
                      go_ret
                      exact ⟨by rw [E.out]; rfl, B.out.old⟩
end Go.Proofs.Ytepchjpdfmleoaa

/-
  Words that may be said: their lists are short, their numbers are none below 0.
-/
namespace Go.Proofs.Ytepchjpdfmleoaa
open Go.RowKit Cn Pn Wn
set_option linter.unusedVariables false
namespace Wn

theorem whoB_iff {n : Int} : whoB n = true ↔ 1 ≤ n ∧ n ≤ 64 := by simp [whoB]
theorem donTo_mem {l : List Int} : ∀ {i : Nat}, donTo l i = true → ∀ j, j < i → whoB (l.getD j 0) = true ∧ (j = 0 ∨ l.getD (j - 1) 0 < l.getD j 0)
  | 0, _, j, hj => by omega
  | i + 1, h, j, hj => by
    rw [donTo_next] at h
    simp only [Bool.and_eq_true, Bool.or_eq_true, decide_eq_true_eq] at h
    by_cases e : j = i
    · subst e; exact h.2
    · exact donTo_mem h.1 j (by omega)
theorem donB_low {l : List Int} (h : donB l = true) : ∀ j : Nat, j < l.length → (j : Int) + 1 ≤ l.getD j 0
  | 0, hj => by
    have := whoB_iff.1 (donTo_mem h 0 hj).1
    omega
  | j + 1, hj => by
    have ih := donB_low h j (by omega)
    rcases (donTo_mem h (j + 1) hj).2 with e | e
    · omega
    · rw [Nat.add_sub_cancel] at e
      omega
theorem donB_len {l : List Int} (h : donB l = true) : l.length ≤ 64 := by
  by_cases h0 : l.length = 0
  · omega
  · have h1 := donB_low h (l.length - 1) (by omega)
    have h2 := whoB_iff.1 (donTo_mem h (l.length - 1) (by omega)).1
    omega
theorem donB_who {l : List Int} (h : donB l = true) : ∀ x ∈ l, 1 ≤ x ∧ x ≤ 64 := by
  intro x hx
  obtain ⟨j, hj, rfl⟩ := List.mem_iff_getElem.1 hx
  have := whoB_iff.1 (donTo_mem h j hj).1
  rw [List.getD_eq_getElem?_getD, List.getElem?_eq_getElem hj, Option.getD_some] at this
  exact this

/-- What good words are. -/
structure Fine (c : Wd) : Prop where
  kind : 1 ≤ c.kind ∧ c.kind ≤ 8
  frm : 0 ≤ c.frm ∧ c.frm ≤ 64
  why : 0 ≤ c.why ∧ c.why ≤ 17
  cards : c.cards.length ≤ 64 ∧ ∀ x ∈ c.cards, 1 ≤ x.who ∧ x.who ≤ 64
  parcels : c.parcels.length ≤ 64 ∧ ∀ x ∈ c.parcels, (1 ≤ x.frm ∧ x.frm ≤ 64) ∧ (1 ≤ x.to ∧ x.to ≤ 64) ∧ x.data.length ≤ 64
  vector : c.vector.length ≤ 256
  who : c.who.length ≤ 64 ∧ ∀ x ∈ c.who, 1 ≤ x ∧ x ≤ 64
  openings : c.openings.length ≤ 64 ∧ ∀ x ∈ c.openings, (1 ≤ x.who ∧ x.who ≤ 64) ∧ x.vals.length ≤ 5
theorem good_fine {c : Wd} (h : goodB c = true) : Fine c := by
  unfold goodB at h
  split at h
  · cases h
  rename_i hk
  split at h
  · cases h
  rename_i hf
  split at h
  · cases h
  rename_i hb
  simp only [Bool.or_eq_true, Bool.not_eq_true', not_or, Bool.not_eq_false, decide_eq_true_eq, Bool.and_eq_true] at hb
  obtain ⟨⟨⟨⟨⟨⟨b1, b2⟩, b3⟩, b4⟩, b5⟩, b6⟩, b7⟩ := hb
  have hfr : 0 ≤ c.frm ∧ c.frm ≤ 64 := by
    by_cases e : c.frm = 0
    · omega
    · have : whoB c.frm = true := by
        simp only [Bool.or_eq_true, not_or, bne_iff_ne, ne_eq, Bool.and_eq_true, Bool.not_eq_true', not_and, Bool.not_eq_false, Decidable.not_not] at hf
        apply hf.2
        rw [hf.1]
        exact decide_eq_false e
      have := whoB_iff.1 this
      omega
  have hp : ∀ x ∈ c.parcels, (1 ≤ x.frm ∧ x.frm ≤ 64) ∧ (1 ≤ x.to ∧ x.to ≤ 64) ∧ x.data.length ≤ 64 := by
    intro x hx
    have := List.all_eq_true.1 b1 x hx
    simp only [pcB, Bool.and_eq_true, decide_eq_true_eq] at this
    exact ⟨whoB_iff.1 this.1.1, whoB_iff.1 this.1.2, this.2⟩
  have ho : ∀ x ∈ c.openings, x.vals.length ≤ 5 := by
    intro x hx
    have := List.all_eq_true.1 b2 x hx
    simpa [ogB] using this
  have l2 := donB_len b6
  have l3 := donB_len b7
  rw [pcL, List.length_map] at l2
  rw [List.length_map] at l3
  have hall : allN c = hasN c := by simpa using b3
  have ow : ∀ x ∈ c.openings, (1 ≤ x.who ∧ x.who ≤ 64) ∧ x.vals.length ≤ 5 := fun x hx => ⟨donB_who b7 x.who (List.mem_map.2 ⟨x, hx, rfl⟩), ho x hx⟩
  have main : (0 ≤ c.why ∧ c.why ≤ 17) ∧ (c.cards.length ≤ 64 ∧ ∀ x ∈ c.cards, 1 ≤ x.who ∧ x.who ≤ 64) := by
    split at h
    · rename_i k1
      simp only [Bool.and_eq_true, decide_eq_true_eq] at h
      refine ⟨by omega, by omega, fun x hx => ?_⟩
      obtain ⟨y, hy⟩ : ∃ y, c.cards = [y] := List.length_eq_one_iff.1 h.1.2
      rw [hy] at hx h
      simp at hx h
      subst hx
      have : c.frm ≠ 0 := by
        intro e
        simp [wardenB, k1, e] at hf
      omega
    · split at h
      · rename_i k1 k8
        simp only [Bool.and_eq_true, decide_eq_true_eq] at h
        have : c.cards = [] := by
          have e : hasN c = 0 := by unfold hasN; simp [k8]
          unfold allN at hall
          exact List.eq_nil_of_length_eq_zero (by omega)
        rw [this]
        exact ⟨by omega, by simp, by simp⟩
      · simp only [Bool.and_eq_true, decide_eq_true_eq] at h
        have l := donB_len h.2
        rw [List.length_map] at l
        exact ⟨by omega, l, fun x hx => donB_who h.2 x.who (List.mem_map.2 ⟨x, hx, rfl⟩)⟩
  exact ⟨by omega, hfr, main.1, main.2, ⟨l2, hp⟩, by omega, ⟨donB_len b5, donB_who b5⟩, ⟨l3, ow⟩⟩
theorem Fine.text {c : Wd} (F : Fine c) : TextOk c :=
  ⟨by have := F.kind; omega, F.frm.1, F.why.1, ⟨by have := F.cards.1; omega, fun x hx => by have := F.cards.2 x hx; omega⟩, ⟨by have := F.parcels.1; omega, fun x hx => by have := F.parcels.2 x hx; exact ⟨by omega, by omega, this.2.2⟩⟩, F.vector, ⟨by have := F.who.1; omega, fun x hx => by have := F.who.2 x hx; omega⟩, ⟨by have := F.openings.1; omega, fun x hx => by have := F.openings.2 x hx; exact ⟨by omega, this.2⟩⟩⟩
end Wn
end Go.Proofs.Ytepchjpdfmleoaa

/-
  Unlike words have unlike texts.
-/
namespace Go.Proofs.Ytepchjpdfmleoaa
open Go.RowKit Cn Pn Wn
set_option linter.unusedVariables false
namespace Wn

theorem le4_cut {a b : Nat} (ha : a < 4294967296) (hb : b < 4294967296) {X Y : List Nat} (h : le4 a ++ X = le4 b ++ Y) : a = b ∧ X = Y := by
  simp only [le4, List.cons_append, List.nil_append, List.cons.injEq] at h
  obtain ⟨h1, h2, h3, h4, h5⟩ := h
  exact ⟨by omega, h5⟩
theorem le8_cut {a b : Nat} (ha : a < 18446744073709551616) (hb : b < 18446744073709551616) {X Y : List Nat} (h : le8 a ++ X = le8 b ++ Y) : a = b ∧ X = Y := by
  unfold le8 at h
  rw [List.append_assoc, List.append_assoc] at h
  obtain ⟨h1, h2⟩ := le4_cut (Nat.mod_lt _ (by omega)) (Nat.mod_lt _ (by omega)) h
  obtain ⟨h3, h4⟩ := le4_cut (by omega) (by omega) h2
  exact ⟨by omega, h4⟩
theorem fieldB_cut {a b : List Nat} (ha : a.length < 4294967296) (hb : b.length < 4294967296) {X Y : List Nat} (h : fieldB a ++ X = fieldB b ++ Y) : a = b ∧ X = Y := by
  unfold fieldB at h
  rw [List.append_assoc, List.append_assoc] at h
  obtain ⟨h1, h2⟩ := le4_cut ha hb h
  exact List.append_inj h2 h1
/-- What is told one behind the other can be told apart. -/
def Cut {α : Type} (P : α → Prop) (f : α → List Nat) : Prop := ∀ (x y : α) (X Y : List Nat), P x → P y → f x ++ X = f y ++ Y → x = y ∧ X = Y
theorem cut_list {α : Type} {P : α → Prop} {f : α → List Nat} (H : Cut P f) : ∀ (l m : List α) (X Y : List Nat), l.length = m.length → (∀ x ∈ l, P x) → (∀ x ∈ m, P x) → l.flatMap f ++ X = m.flatMap f ++ Y → l = m ∧ X = Y
  | [], [], X, Y, _, _, _, h => ⟨rfl, by simpa using h⟩
  | [], _ :: _, _, _, hl, _, _, _ => by simp at hl
  | _ :: _, [], _, _, hl, _, _, _ => by simp at hl
  | x :: l, y :: m, X, Y, hl, hp, hq, h => by
    rw [List.flatMap_cons, List.flatMap_cons, List.append_assoc, List.append_assoc] at h
    obtain ⟨rfl, h2⟩ := H x y _ _ (hp x (List.mem_cons_self ..)) (hq y (List.mem_cons_self ..)) h
    obtain ⟨rfl, h3⟩ := cut_list H l m X Y (by simpa using hl) (fun z hz => hp z (List.mem_cons_of_mem _ hz)) (fun z hz => hq z (List.mem_cons_of_mem _ hz)) h2
    exact ⟨rfl, h3⟩
theorem cut_many {α : Type} {P : α → Prop} {f : α → List Nat} (H : Cut P f) {l m : List α} {X Y : List Nat} (hl : l.length < 4294967296) (hm : m.length < 4294967296) (hp : ∀ x ∈ l, P x) (hq : ∀ x ∈ m, P x) (h : le4 l.length ++ (l.flatMap f ++ X) = le4 m.length ++ (m.flatMap f ++ Y)) : l = m ∧ X = Y := by
  obtain ⟨h1, h2⟩ := le4_cut hl hm h
  exact cut_list H l m X Y h1 hp hq h2
theorem int_cut {a b : Int} (ha : 0 ≤ a ∧ a ≤ 64) (hb : 0 ≤ b ∧ b ≤ 64) {X Y : List Nat} (h : le4 a.toNat ++ X = le4 b.toNat ++ Y) : a = b ∧ X = Y := by
  obtain ⟨h1, h2⟩ := le4_cut (by omega) (by omega) h
  exact ⟨by omega, h2⟩
theorem cut_card : Cut (fun x : Card => (1 ≤ x.who ∧ x.who ≤ 64) ∧ x.lock < 18446744073709551616 ∧ x.key < 18446744073709551616) cardT := by
  rintro ⟨a1, a2, a3⟩ ⟨b1, b2, b3⟩ X Y ⟨ha, ha2, ha3⟩ ⟨hb, hb2, hb3⟩ h
  simp only [cardT, List.append_assoc] at *
  obtain ⟨rfl, h_1⟩ := int_cut (by omega) (by omega) h
  obtain ⟨rfl, h_2⟩ := le8_cut ha2 hb2 h_1
  obtain ⟨rfl, h_3⟩ := le8_cut ha3 hb3 h_2
  exact ⟨rfl, h_3⟩
theorem cut_parcel : Cut (fun x : Parcel => (1 ≤ x.frm ∧ x.frm ≤ 64) ∧ (1 ≤ x.to ∧ x.to ≤ 64) ∧ x.data.length ≤ 64) parcelT := by
  rintro ⟨a1, a2, a3⟩ ⟨b1, b2, b3⟩ X Y ⟨ha, ha2, ha3⟩ ⟨hb, hb2, hb3⟩ h
  simp only [parcelT, List.append_assoc] at *
  obtain ⟨rfl, h_1⟩ := int_cut (by omega) (by omega) h
  obtain ⟨rfl, h_2⟩ := int_cut (by omega) (by omega) h_1
  obtain ⟨rfl, h_3⟩ := fieldB_cut (by omega) (by omega) h_2
  exact ⟨rfl, h_3⟩
theorem cut_small : Cut (fun x : Nat => x < 4294967296) le4 := fun x y X Y hx hy h => le4_cut hx hy h
theorem cut_great : Cut (fun x : Nat => x < 18446744073709551616) le8 := fun x y X Y hx hy h => le8_cut hx hy h
theorem cut_who : Cut (fun x : Int => 1 ≤ x ∧ x ≤ 64) (fun n => le4 n.toNat) := fun x y X Y hx hy h => int_cut (by omega) (by omega) h
theorem cut_opening : Cut (fun x : Opening => ((1 ≤ x.who ∧ x.who ≤ 64) ∧ x.vals.length ≤ 5) ∧ ∀ y ∈ x.vals, y < 18446744073709551616) openingT := by
  rintro ⟨a1, a2, a3⟩ ⟨b1, b2, b3⟩ X Y ⟨⟨ha, ha2⟩, ha3⟩ ⟨⟨hb, hb2⟩, hb3⟩ h
  simp only [openingT, List.append_assoc] at *
  obtain ⟨rfl, h_1⟩ := int_cut (by omega) (by omega) h
  obtain ⟨h1, h_1⟩ := le4_cut (by split <;> omega) (by split <;> omega) h_1
  obtain ⟨rfl, h_2⟩ := cut_many cut_great (by omega) (by omega) ha3 hb3 h_1
  have : a2 = b2 := by cases a2 <;> cases b2 <;> simp at h1 ⊢
  exact ⟨by rw [this], h_2⟩
/-- What is known of the numbers of a word's lists. -/
structure Whole (c : Wd) : Prop where
  cards : ∀ x ∈ c.cards, x.lock < 18446744073709551616 ∧ x.key < 18446744073709551616
  vector : ∀ x ∈ c.vector, x < 4294967296
  openings : ∀ x ∈ c.openings, ∀ y ∈ x.vals, y < 18446744073709551616
theorem text_inj {c d : Wd} (F : Fine c) (G : Fine d) (V : Whole c) (W : Whole d) (h : textT c = textT d) : c = d := by
  obtain ⟨c1, c2, c3, c4, c5, c6, c7, c8⟩ := c
  obtain ⟨d1, d2, d3, d4, d5, d6, d7, d8⟩ := d
  obtain ⟨f1, f2, f3, f4, f5, f6, f7, f8⟩ := F
  obtain ⟨g1, g2, g3, g4, g5, g6, g7, g8⟩ := G
  obtain ⟨v1, v2, v3⟩ := V
  obtain ⟨w1, w2, w3⟩ := W
  simp only at f1 f2 f3 f4 f5 f6 f7 f8 g1 g2 g3 g4 g5 g6 g7 g8 v1 v2 v3 w1 w2 w3
  simp only [textT, List.append_assoc] at h
  obtain ⟨rfl, h_1⟩ := int_cut (by omega) (by omega) h
  obtain ⟨rfl, h_2⟩ := int_cut (by omega) (by omega) h_1
  obtain ⟨rfl, h_3⟩ := int_cut (by omega) (by omega) h_2
  obtain ⟨rfl, h_4⟩ := cut_many cut_card (by omega) (by omega) (fun x hx => ⟨f4.2 x hx, v1 x hx⟩) (fun x hx => ⟨g4.2 x hx, w1 x hx⟩) h_3
  obtain ⟨rfl, h_5⟩ := cut_many cut_parcel (by omega) (by omega) f5.2 g5.2 h_4
  obtain ⟨rfl, h_6⟩ := cut_many cut_small (by omega) (by omega) v2 w2 h_5
  obtain ⟨rfl, h_7⟩ := cut_many cut_who (by omega) (by omega) f7.2 g7.2 h_6
  have h_7' : le4 c8.length ++ (c8.flatMap openingT ++ []) = le4 d8.length ++ (d8.flatMap openingT ++ []) := by rw [List.append_nil, List.append_nil]; exact h_7
  obtain ⟨rfl, _⟩ := cut_many cut_opening (by omega) (by omega) (fun x hx => ⟨f8.2 x hx, v3 x hx⟩) (fun x hx => ⟨g8.2 x hx, w3 x hx⟩) h_7'
  rfl
theorem sealed_inj {l m : List Nat} (h : sealed l = sealed m) : l = m := by
  unfold sealed at h
  have hl := congrArg List.length h
  rw [List.length_append, List.length_append] at hl
  exact (List.append_inj h (by simp only [le4_len] at hl; omega)).1
end Wn
end Go.Proofs.Ytepchjpdfmleoaa
