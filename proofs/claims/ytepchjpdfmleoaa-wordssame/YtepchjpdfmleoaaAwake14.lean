/-
  The fixed fact of layer 14's statements.
-/
import Derived.Test.YtepchjpdfmleoaaMgLetA
import Derived.Lib.SlBytesConst
namespace Go.Proofs.Ytepchjpdfmleoaa
open Go.RowKit Cn
set_option linter.unusedVariables false

namespace Aw14
def F : List Nat := [2, 1, 0, 0, 3, 0, 0, 0, 0, 0, 0, 0, 2, 0, 0, 0, 97, 98]
def F1 : List Nat := [3, 0, 0, 0, 0, 0, 0, 0, 2, 0, 0, 0, 97, 98]
def F2 : List Nat := [2, 0, 0, 0, 97, 98]
theorem k0 : bytesP (greatP (smallP (some []) 258) 3) [97, 98] = some F := by decide +kernel
theorem k1 : sealE (some F) = 0 := by decide +kernel
theorem k2 : (sealS (some F)).length = 22 := by decide +kernel
theorem k3 : opE (sealS (some F)) = 0 := by decide +kernel
theorem k4 : opL (sealS (some F)) = F := by decide +kernel
theorem k5 : nmN F 0 4 = 258 ∧ tkL F 0 4 = F1 ∧ tkE F 0 4 = 0 := by decide +kernel
theorem k6 : nmN F1 0 8 = 3 ∧ tkL F1 0 8 = F2 ∧ tkE F1 0 8 = 0 := by decide +kernel
theorem k7 : nmN F2 0 4 = 2 ∧ tkL F2 0 4 = [97, 98] ∧ tkE F2 0 4 = 0 := by decide +kernel
theorem k8 : tkS [97, 98] 0 2 = [97, 98] ∧ tkL [97, 98] 0 2 = [] ∧ tkE [97, 98] 0 2 = 0 := by decide +kernel
theorem k9 : endE [] 0 = 0 := by decide +kernel
theorem kc : crc [49, 50, 51, 52, 53, 54, 55, 56, 57] = 3421780262 := by decide +kernel
theorem kb : ∀ x ∈ sealS (some F), x < 256 := by decide +kernel
section
variable {K : LetterK} {w0 wr : World} {bs : List (Nat × TypeId × List Value)} {v : Value}
theorem c5 (h : Lw w0 bs (K.Eye v F 0) wr) : Calls Try.prog 69 #[v] wr fun e w' => e = .returned (.int .i64 258) ∧ Lw w0 bs (K.Eye v F1 0) w' := by
  have := h.eSmall
  rw [k5.1, k5.2.1, k5.2.2] at this
  exact this
theorem c6 (h : Lw w0 bs (K.Eye v F1 0) wr) : Calls Try.prog 98 #[v] wr fun e w' => e = .returned (.int .u64 3) ∧ Lw w0 bs (K.Eye v F2 0) w' := by
  have := h.eGreat
  rw [k6.1, k6.2.1, k6.2.2] at this
  exact this
theorem c7 (h : Lw w0 bs (K.Eye v F2 0) wr) : Calls Try.prog 99 #[v] wr fun e w' => ∃ a cap, e = .returned (.slice a 2 cap) ∧ Rd w' a (nums .u8 [97, 98]) ∧ Lw w0 bs (K.Eye v [] 0) w' := by
  have := h.eBytes
  rw [k7.1, k7.2.1, k7.2.2, k8.1, k8.2.1, k8.2.2] at this
  exact this
theorem c8 (h : Lw w0 bs (K.Eye v [] 0) wr) : Calls Try.prog 28 #[v] wr fun e w' => e = .returned (.int .i64 0) ∧ Lw w0 bs (K.Eye v [] 0) w' := by
  have := h.eEnd
  rw [k9] at this
  exact this
end
end Aw14
theorem By14.row {w : World} {g n cap : Nat} {xs : List Nat} {rest : List Value} (R : Row w g 5 (nums .u8 xs ++ rest)) (hl : xs.length = n) (hc : n ≤ cap) (hs : n ≤ 9223372036854775807) (hx : ∀ x ∈ xs, x < 256) : By14 w (some ⟨g, 0, none⟩) n cap xs :=
  ⟨hl, hc, hs, hx, fun i v hv => ⟨g, 0, rfl, by
    rw [Nat.zero_add]
    refine R.cell ?_
    rw [List.getElem?_append_left (List.getElem?_eq_some_iff.1 hv).1]
    exact hv⟩⟩

/-- The bytes of a constant text, in their marked row. -/
theorem By14.mark (w : World) (xs : List Nat) (hs : xs.length ≤ 9223372036854775807) (hx : ∀ x ∈ xs, x < 256) (f : Nat × Nat) : By14 (w.alloc (.cells (nums .u8 xs).toArray 5 f)) (some ⟨w.heap.size, 0, none⟩) xs.length xs.length xs :=
  ⟨rfl, Nat.le_refl _, hs, hx, fun i v hv => ⟨_, 0, rfl, by
    rw [Nat.zero_add]
    have h1 : (w.alloc (.cells (nums .u8 xs).toArray 5 f)).heap[w.heap.size]? = some (.cells (nums .u8 xs).toArray 5 f) := by
      show (w.heap.push _)[w.heap.size]? = _
      simp
    simp only [World.cell?, h1]
    simpa using hv⟩⟩
theorem conv_const (w : World) (xs : List Nat) (n c : Nat) : (convert 32 32 (.slice (some ⟨w.heap.size, 0, none⟩) n c)).run Try.prog (w.alloc (.cells (nums .u8 xs).toArray 5)) = .ok (.slice (some ⟨w.heap.size, 0, none⟩) n c) (w.alloc (.cells (nums .u8 xs).toArray 5 ((nums .u8 xs).toArray.size, (nums .u8 xs).toArray.size + 1))) :=
  Lib.run_convert_bytes_const w 32 5 _ n c Try.underlying32 Try.underlying5
theorem Lw.bytes2 {K : LetterK} {w0 wr w4 : World} {bs : List (Nat × TypeId × List Value)} {v : Value} {st : Option (List Nat)} {m : Nat} (h : Lw w0 bs (K.Pap v st m) wr) (o : Old wr w4) (b : Option Addr) (n cap : Nat) (xs : List Nat) (hm : m ≤ 4000000) (B : By14 w4 b n cap xs) (hn : n ≤ 100000) (hb : ∀ a, b = some a → wr.heap.size ≤ a.block) :
    Calls Try.prog 90 #[v, .slice b n cap] w4 fun e w' => e = .returned v ∧ Lw w0 bs (K.Pap v (bytesP st xs) (m + 4 + n)) w' := by
  have hh := h.mono (K.papS _ _ _) o
  obtain ⟨O, h1, h2, h3, h4⟩ := h
  refine (K.bytes v st m O b n cap xs w4 (K.papStay h4 (fun i hi => o.block i (K.papIn h4 i hi)) o.size) hm B hn (fun a h0 ha ho => ?_)).mono fun _ _ ⟨e, t⟩ => ⟨e, hh.turn h2 h3 t⟩
  have := hb a ha
  have := K.papIn h4 _ ho
  omega

end Go.Proofs.Ytepchjpdfmleoaa