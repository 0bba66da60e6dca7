/-
  The fixed fact of layer 14's statements.
-/
import Derived.Test.YtccphdngmhfmnaaLetterC
import Derived.Lib.SlBytesConst
namespace Go.Proofs.Ytccphdngmhfmnaa
open Go.RowKit Cn
set_option linter.unusedVariables false

namespace Aw14
def F : List Nat := [2, 1, 0, 0, 3, 0, 0, 0, 0, 0, 0, 0, 2, 0, 0, 0, 97, 98]
def F1 : List Nat := [3, 0, 0, 0, 0, 0, 0, 0, 2, 0, 0, 0, 97, 98]
def F2 : List Nat := [2, 0, 0, 0, 97, 98]
theorem k0 : bytesP (greatP (smallP (some []) 258) 3) [97, 98] = some F := by decide +kernel
theorem k1 : sealE (some F) = 0 := by decide +kernel
theorem k2 : (sealS (some F)).length = 22 := by decide +kernel
theorem k3 : opE (sealS (some F)) = 0 := by decide +kernel
theorem k4 : opL (sealS (some F)) = F := by decide +kernel
theorem k5 : nmN F 0 4 = 258 ∧ tkL F 0 4 = F1 ∧ tkE F 0 4 = 0 := by decide +kernel
theorem k6 : nmN F1 0 8 = 3 ∧ tkL F1 0 8 = F2 ∧ tkE F1 0 8 = 0 := by decide +kernel
theorem k7 : nmN F2 0 4 = 2 ∧ tkL F2 0 4 = [97, 98] ∧ tkE F2 0 4 = 0 := by decide +kernel
theorem k8 : tkS [97, 98] 0 2 = [97, 98] ∧ tkL [97, 98] 0 2 = [] ∧ tkE [97, 98] 0 2 = 0 := by decide +kernel
theorem k9 : endE [] 0 = 0 := by decide +kernel
theorem kc : crc [49, 50, 51, 52, 53, 54, 55, 56, 57] = 3421780262 := by decide +kernel
theorem kb : ∀ x ∈ sealS (some F), x < 256 := by decide +kernel
section
variable {K : LetterK} {w0 wr : World} {bs : List (Nat × TypeId × List Value)} {v : Value}
theorem c5 (h : Lw w0 bs (K.Eye v F 0) wr) : Calls Try.prog 21 #[v] wr fun e w' => e = .returned (.int .i64 258) ∧ Lw w0 bs (K.Eye v F1 0) w' := by
  have := h.eSmall
  rw [k5.1, k5.2.1, k5.2.2] at this
  exact this
theorem c6 (h : Lw w0 bs (K.Eye v F1 0) wr) : Calls Try.prog 22 #[v] wr fun e w' => e = .returned (.int .u64 3) ∧ Lw w0 bs (K.Eye v F2 0) w' := by
  have := h.eGreat
  rw [k6.1, k6.2.1, k6.2.2] at this
  exact this
theorem c7 (h : Lw w0 bs (K.Eye v F2 0) wr) : Calls Try.prog 24 #[v] wr fun e w' => ∃ a cap, e = .returned (.slice a 2 cap) ∧ Rd w' a (nums .u8 [97, 98]) ∧ Lw w0 bs (K.Eye v [] 0) w' := by
  have := h.eBytes
  rw [k7.1, k7.2.1, k7.2.2, k8.1, k8.2.1, k8.2.2] at this
  exact this
theorem c8 (h : Lw w0 bs (K.Eye v [] 0) wr) : Calls Try.prog 25 #[v] wr fun e w' => e = .returned (.int .i64 0) ∧ Lw w0 bs (K.Eye v [] 0) w' := by
  have := h.eEnd
  rw [k9] at this
  exact this
end
end Aw14
theorem By14.row {w : World} {g n cap : Nat} {xs : List Nat} {rest : List Value} (R : Row w g 5 (nums .u8 xs ++ rest)) (hl : xs.length = n) (hc : n ≤ cap) (hs : n ≤ 9223372036854775807) (hx : ∀ x ∈ xs, x < 256) : By14 w (some ⟨g, 0, none⟩) n cap xs :=
  ⟨hl, hc, hs, hx, fun i v hv => ⟨g, 0, rfl, by
    rw [Nat.zero_add]
    refine R.cell ?_
    rw [List.getElem?_append_left (List.getElem?_eq_some_iff.1 hv).1]
    exact hv⟩⟩

/-- The bytes of a constant text, in their marked row. -/
theorem By14.mark (w : World) (xs : List Nat) (hs : xs.length ≤ 9223372036854775807) (hx : ∀ x ∈ xs, x < 256) (f : Nat × Nat) : By14 (w.alloc (.cells (nums .u8 xs).toArray 5 f)) (some ⟨w.heap.size, 0, none⟩) xs.length xs.length xs :=
  ⟨rfl, Nat.le_refl _, hs, hx, fun i v hv => ⟨_, 0, rfl, by
    rw [Nat.zero_add]
    have h1 : (w.alloc (.cells (nums .u8 xs).toArray 5 f)).heap[w.heap.size]? = some (.cells (nums .u8 xs).toArray 5 f) := by
      show (w.heap.push _)[w.heap.size]? = _
      simp
    simp only [World.cell?, h1]
    simpa using hv⟩⟩
theorem conv_const (w : World) (xs : List Nat) (n c : Nat) : (convert 26 26 (.slice (some ⟨w.heap.size, 0, none⟩) n c)).run Try.prog (w.alloc (.cells (nums .u8 xs).toArray 5)) = .ok (.slice (some ⟨w.heap.size, 0, none⟩) n c) (w.alloc (.cells (nums .u8 xs).toArray 5 ((nums .u8 xs).toArray.size, (nums .u8 xs).toArray.size + 1))) :=
  Lib.run_convert_bytes_const w 26 5 _ n c Try.underlying26 Try.underlying5
theorem Lw.bytes2 {K : LetterK} {w0 wr w4 : World} {bs : List (Nat × TypeId × List Value)} {v : Value} {st : Option (List Nat)} {m : Nat} (h : Lw w0 bs (K.Pap v st m) wr) (o : Old wr w4) (b : Option Addr) (n cap : Nat) (xs : List Nat) (hm : m ≤ 4000000) (B : By14 w4 b n cap xs) (hn : n ≤ 100000) (hb : ∀ a, b = some a → wr.heap.size ≤ a.block) :
    Calls Try.prog 14 #[v, .slice b n cap] w4 fun e w' => e = .returned v ∧ Lw w0 bs (K.Pap v (bytesP st xs) (m + 4 + n)) w' := by
  have hh := h.mono (K.papS _ _ _) o
  obtain ⟨O, h1, h2, h3, h4⟩ := h
  refine (K.bytes v st m O b n cap xs w4 (K.papStay h4 (fun i hi => o.block i (K.papIn h4 i hi)) o.size) hm B hn (fun a h0 ha ho => ?_)).mono fun _ _ ⟨e, t⟩ => ⟨e, hh.turn h2 h3 t⟩
  have := hb a ha
  have := K.papIn h4 _ ho
  omega

set_option maxRecDepth 100000 in
set_option maxHeartbeats 4000000 in
theorem awake14 (K : LetterK) (w : World) : Calls Try.prog 9 #[] w fun e w' => e = .returned (.bool true) ∧ Old w w' := by
  go_enter Try.func9, Try.ntmps9
  go_wp2_with fail
  refine (Lw.blank (K := K) (Bxs.nil w)).mono ?_
  rintro e w1 ⟨v, rfl, L1⟩
  have L1 := hide L1
  go_wp2_with fail
  refine (L1.out.small 258 (by omega) (by omega)).mono ?_
  rintro e w2 ⟨rfl, L2⟩
  have L2 := hide L2
  clear L1
  have C3 := L2.out.great 3 (by omega) (by omega)
  rw [show ((3 : Nat) : Int) = 3 from rfl] at C3
  have C3 := hide C3
  go_wp2_with fail
  refine C3.out.mono ?_
  rintro e w3 ⟨rfl, L3⟩
  have L3 := hide L3
  clear L2 C3
  have CS : (convert 26 26 (.slice (some ⟨w3.heap.size, 0, none⟩) 2 2)).run Try.prog (w3.alloc (.cells #[.int .u8 97, .int .u8 98] 5)) = .ok (.slice (some ⟨w3.heap.size, 0, none⟩) 2 2) (w3.alloc (.cells #[.int .u8 97, .int .u8 98] 5 (2, 3))) := conv_const w3 [97, 98] 2 2
  have C4 := hide (L3.out.bytes2 (Old.of_alloc _ _) (some ⟨w3.heap.size, 0, none⟩) 2 2 [97, 98] (by omega) (By14.mark w3 [97, 98] (by decide) (by decide) (2, 3)) (by omega) (fun a ha => by cases ha; exact Nat.le_refl _))
  rw [Aw14.k0] at C4
  go_wp2_with fail
  refine C4.out.mono ?_
  rintro e w4 ⟨rfl, L4⟩
  have L4 := hide L4
  clear L3 C4 CS
  go_wp2_with fail
  refine (L4.out.sealed_ (by omega)).mono ?_
  rintro e w5 ⟨r, rfl, B5, _, ok, _⟩
  obtain ⟨g, cap, rest, rfl, _, hc, R⟩ := ok Aw14.k1
  rw [Aw14.k2] at hc ⊢
  rw [Aw14.k1]
  have Y5 := hide (By14.row R Aw14.k2 hc (by omega) Aw14.kb)
  have B5 := hide B5
  clear L4 ok R
  have C6 := hide (Lw.look (K := K) B5.out Y5.out)
  rw [Aw14.k3, Aw14.k4] at C6
  go_wp2_with fail
  refine C6.out.mono ?_
  rintro e w6 ⟨v2, rfl, L6⟩
  have L6 := hide L6
  have CS : (convert 26 26 (.slice (some ⟨w6.heap.size, 0, none⟩) 9 9)).run Try.prog (w6.alloc (.cells #[.int .u8 49, .int .u8 50, .int .u8 51, .int .u8 52, .int .u8 53, .int .u8 54, .int .u8 55, .int .u8 56, .int .u8 57] 5)) = .ok (.slice (some ⟨w6.heap.size, 0, none⟩) 9 9) (w6.alloc (.cells #[.int .u8 49, .int .u8 50, .int .u8 51, .int .u8 52, .int .u8 53, .int .u8 54, .int .u8 55, .int .u8 56, .int .u8 57] 5 (9, 10))) := conv_const w6 [49, 50, 51, 52, 53, 54, 55, 56, 57] 9 9
  clear C6 B5 Y5
  have C7 := hide (K.check (some ⟨w6.heap.size, 0, none⟩) 9 9 [49, 50, 51, 52, 53, 54, 55, 56, 57] _ (By14.mark w6 [49, 50, 51, 52, 53, 54, 55, 56, 57] (by decide) (by decide) (9, 10)) (by omega))
  rw [Aw14.kc] at C7
  go_wp2_with fail
  refine C7.out.mono ?_
  rintro e w7 ⟨rfl, o7⟩
  have L7 := hide (L6.out.mono (K.eyeS _ _ _) ((Old.of_alloc _ _).trans o7))
  clear L6 C7 o7 CS
  go_wp2_with fail
  refine (Aw14.c5 L7.out).mono ?_
  rintro e w8 ⟨rfl, L8⟩
  have L8 := hide L8
  clear L7
  go_wp2_with fail
  refine (Aw14.c6 L8.out).mono ?_
  rintro e w9 ⟨rfl, L9⟩
  have L9 := hide L9
  clear L8
  go_wp2_with fail
  refine (Aw14.c7 L9.out).mono ?_
  rintro e w10 ⟨a, ca, rfl, rd, LA⟩
  have LA := hide LA
  clear L9
  have CV : (convert 26 9 (.slice a 2 ca)).run Try.prog w10 = .ok (.string ⟨#[97, 98]⟩) w10 := Ssb.run_bstr Try.underlying26 Try.underlying5 Try.underlying9 (xs := [97, 98]) rfl rd
  clear rd
  go_wp2_with fail
  refine (Aw14.c8 LA.out).mono ?_
  rintro e w11 ⟨rfl, LB⟩
  have OB := hide LB.old
  clear LA LB CV
  go_wp2
  go_ret
  exact ⟨by simp, OB.out⟩
end Go.Proofs.Ytccphdngmhfmnaa
