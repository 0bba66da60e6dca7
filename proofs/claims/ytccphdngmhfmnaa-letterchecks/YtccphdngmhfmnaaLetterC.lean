/-
  What layer 14's calls owe, told by values alone (the walks of its statements ask no more). A Paper and an Eye lie in blocks of their own (O), which nobody else holds.
-/
import Derived.Test.YtccphdngmhfmnaaRefTake
namespace Go.Proofs.Ytccphdngmhfmnaa
open Go.RowKit Cn
set_option linter.unusedVariables false

/-- All but the blocks that O names is as it was. -/
structure Kept (O : Nat → Prop) (w w' : World) : Prop where
  os : w'.os = w.os
  tape : w'.tape = w.tape
  output : w'.output = w.output
  size : w.heap.size ≤ w'.heap.size
  block : ∀ k, k < w.heap.size → ¬ O k → w'.heap[k]? = w.heap[k]?
theorem Kept.row {O : Nat → Prop} {w w' : World} (h : Kept O w w') {g : Nat} {t : TypeId} {vs : List Value} (R : Row w g t vs) (hg : ¬ O g) : Row w' g t vs := (h.block g R.lt hg).trans R
theorem Kept.old {O : Nat → Prop} {w0 w w' : World} (h : Kept O w w') (o : Old w0 w) (hO : ∀ i, O i → w0.heap.size ≤ i) : Old w0 w' :=
  ⟨h.os.trans o.os, h.tape.trans o.tape, h.output.trans o.output, Nat.le_trans o.size h.size, fun k hk => (h.block k (Nat.lt_of_lt_of_le hk o.size) (fun ho => by have := hO k ho; omega)).trans (o.block k hk)⟩
theorem Kept.of_old {O : Nat → Prop} {w w' : World} (o : Old w w') : Kept O w w' := ⟨o.os, o.tape, o.output, o.size, fun k hk _ => o.block k hk⟩

/-- What a Paper's calls make of it: its fields (none: a Small was out of range), and a bound on how many bytes it may hold. -/
def smallP (st : Option (List Nat)) (n : Int) : Option (List Nat) := if 0 ≤ n ∧ n < 4294967296 then st.map (· ++ le4 n.toNat) else none
def greatP (st : Option (List Nat)) (n : Nat) : Option (List Nat) := st.map (· ++ le8 n)
def bytesP (st : Option (List Nat)) (xs : List Nat) : Option (List Nat) := st.map (· ++ fieldB xs)
def sealE : Option (List Nat) → Int
  | none => 4
  | some s => if 65536 < s.length then 6 else 0
def sealS : Option (List Nat) → List Nat
  | none => []
  | some s => sealed s
/-- What End says. -/
def endE (l : List Nat) (er : Int) : Int := if er ≠ 0 then er else if l.length = 0 then 0 else 2

/-- What is known of bytes that came in. -/
structure By14 (w : World) (b : Option Addr) (n cap : Nat) (xs : List Nat) : Prop where
  len : xs.length = n
  room : n ≤ cap
  small : n ≤ 9223372036854775807
  each : ∀ x ∈ xs, x < 256
  rd : Rd w b (nums .u8 xs)
theorem By14.mono {w w' : World} {b : Option Addr} {n cap : Nat} {xs : List Nat} (h : By14 w b n cap xs) (o : Old w w') : By14 w' b n cap xs := ⟨h.len, h.room, h.small, h.each, h.rd.mono o⟩

/-- What a call of an object's does to the world: its own blocks may turn, and new ones are its own. -/
def Turns (O : Nat → Prop) (w w' : World) (Q : World → (Nat → Prop) → Prop) : Prop := ∃ O' : Nat → Prop, Kept O w w' ∧ (∀ i, O' i → O i ∨ w.heap.size ≤ i) ∧ Q w' O'

structure LetterK where
  Pap : Value → Option (List Nat) → Nat → World → (Nat → Prop) → Prop
  Eye : Value → List Nat → Int → World → (Nat → Prop) → Prop
  papIn : ∀ {v st m w O}, Pap v st m w O → ∀ i, O i → i < w.heap.size
  papStay : ∀ {v st m w w' O}, Pap v st m w O → (∀ i, O i → w'.heap[i]? = w.heap[i]?) → w.heap.size ≤ w'.heap.size → Pap v st m w' O
  papPtr : ∀ {v st m w O}, Pap v st m w O → ∃ a, v = .pointer (some a)
  eyeIn : ∀ {v l er w O}, Eye v l er w O → ∀ i, O i → i < w.heap.size
  eyeStay : ∀ {v l er w w' O}, Eye v l er w O → (∀ i, O i → w'.heap[i]? = w.heap[i]?) → w.heap.size ≤ w'.heap.size → Eye v l er w' O
  eyePtr : ∀ {v l er w O}, Eye v l er w O → ∃ a, v = .pointer (some a)
  blank : ∀ w : World, Calls Try.prog 8 #[] w fun e w' => ∃ v O, e = .returned v ∧ Old w w' ∧ (∀ i, O i → w.heap.size ≤ i) ∧ Pap v (some []) 0 w' O
  small : ∀ (v : Value) (st : Option (List Nat)) (m : Nat) (O : Nat → Prop) (n : Int) (w : World), Pap v st m w O → m ≤ 4000000 → -9223372036854775808 ≤ n ∧ n ≤ 9223372036854775807 →
    Calls Try.prog 10 #[v, .int .i64 n] w fun e w' => e = .returned v ∧ Turns O w w' (Pap v (smallP st n) (m + 4))
  great : ∀ (v : Value) (st : Option (List Nat)) (m : Nat) (O : Nat → Prop) (n : Nat) (w : World), Pap v st m w O → m ≤ 4000000 → n < 18446744073709551616 →
    Calls Try.prog 12 #[v, .int .u64 (n : Nat)] w fun e w' => e = .returned v ∧ Turns O w w' (Pap v (greatP st n) (m + 8))
  bytes : ∀ (v : Value) (st : Option (List Nat)) (m : Nat) (O : Nat → Prop) (b : Option Addr) (n cap : Nat) (xs : List Nat) (w : World), Pap v st m w O → m ≤ 4000000 → By14 w b n cap xs → n ≤ 100000 → (∀ a, 0 < xs.length → b = some a → ¬ O a.block) →
    Calls Try.prog 14 #[v, .slice b n cap] w fun e w' => e = .returned v ∧ Turns O w w' (Pap v (bytesP st xs) (m + 4 + n))
  seal_ : ∀ (v : Value) (st : Option (List Nat)) (m : Nat) (O : Nat → Prop) (w : World), Pap v st m w O → m ≤ 4000000 →
    Calls Try.prog 16 #[v] w fun e w' => ∃ r, e = .returned (.tuple #[r, .int .i64 (sealE st)]) ∧ Kept O w w' ∧ (sealE st = 0 → ∃ g cap rest, r = .slice (some ⟨g, 0, none⟩) (sealS st).length cap ∧ w.heap.size ≤ g ∧ (sealS st).length ≤ cap ∧ Row w' g 5 (nums .u8 (sealS st) ++ rest)) ∧ (sealE st ≠ 0 → ∃ a cap, r = .slice a 0 cap)
  look : ∀ (b : Option Addr) (n cap : Nat) (xs : List Nat) (w : World), By14 w b n cap xs →
    Calls Try.prog 18 #[.slice b n cap] w fun e w' => ∃ v O, e = .returned v ∧ Old w w' ∧ (∀ i, O i → w.heap.size ≤ i) ∧ Eye v (opL xs) (opE xs) w' O
  eSmall : ∀ (v : Value) (l : List Nat) (er : Int) (O : Nat → Prop) (w : World), Eye v l er w O →
    Calls Try.prog 21 #[v] w fun e w' => e = .returned (.int .i64 ((nmN l er 4 : Nat) : Int)) ∧ Turns O w w' (Eye v (tkL l er 4) (tkE l er 4))
  eGreat : ∀ (v : Value) (l : List Nat) (er : Int) (O : Nat → Prop) (w : World), Eye v l er w O →
    Calls Try.prog 22 #[v] w fun e w' => e = .returned (.int .u64 ((nmN l er 8 : Nat) : Int)) ∧ Turns O w w' (Eye v (tkL l er 8) (tkE l er 8))
  eBytes : ∀ (v : Value) (l : List Nat) (er : Int) (O : Nat → Prop) (w : World), Eye v l er w O →
    Calls Try.prog 24 #[v] w fun e w' => ∃ a cap, e = .returned (.slice a (tkS (tkL l er 4) (tkE l er 4) (nmN l er 4)).length cap) ∧ Rd w' a (nums .u8 (tkS (tkL l er 4) (tkE l er 4) (nmN l er 4))) ∧ Turns O w w' (Eye v (tkL (tkL l er 4) (tkE l er 4) (nmN l er 4)) (tkE (tkL l er 4) (tkE l er 4) (nmN l er 4)))
  eEnd : ∀ (v : Value) (l : List Nat) (er : Int) (O : Nat → Prop) (w : World), Eye v l er w O →
    Calls Try.prog 25 #[v] w fun e w' => e = .returned (.int .i64 (endE l er)) ∧ Turns O w w' (Eye v l (endE l er))
  check : ∀ (b : Option Addr) (n cap : Nat) (xs : List Nat) (w : World), By14 w b n cap xs → n ≤ 1000000 →
    Calls Try.prog 26 #[.slice b n cap] w fun e w' => e = .returned (.int .u32 ((crc xs : Nat) : Int)) ∧ Old w w'
  smallN : ∀ (n : Int) (w : World), Calls Try.prog 10 #[.pointer none, .int .i64 n] w fun e w' => e = .returned (.pointer none) ∧ Old w w'
  greatN : ∀ (n : Nat) (w : World), Calls Try.prog 12 #[.pointer none, .int .u64 (n : Nat)] w fun e w' => e = .returned (.pointer none) ∧ Old w w'
  bytesN : ∀ (b : Option Addr) (n cap : Nat) (w : World), Calls Try.prog 14 #[.pointer none, .slice b n cap] w fun e w' => e = .returned (.pointer none) ∧ Old w w'
  sealN : ∀ w : World, Calls Try.prog 16 #[.pointer none] w fun e w' => ∃ a cap, e = .returned (.tuple #[.slice a 0 cap, .int .i64 1]) ∧ Old w w'
  eSmallN : ∀ w : World, Calls Try.prog 21 #[.pointer none] w fun e w' => e = .returned (.int .i64 0) ∧ Old w w'
  eGreatN : ∀ w : World, Calls Try.prog 22 #[.pointer none] w fun e w' => e = .returned (.int .u64 0) ∧ Old w w'
  eBytesN : ∀ w : World, Calls Try.prog 24 #[.pointer none] w fun e w' => ∃ a cap, e = .returned (.slice a 0 cap) ∧ Old w w'
  eEndN : ∀ w : World, Calls Try.prog 25 #[.pointer none] w fun e w' => e = .returned (.int .i64 1) ∧ Old w w'

/-- An object's own saying outlasts what leaves its blocks alone. -/
structure Stay (Q : World → (Nat → Prop) → Prop) : Prop where
  isIn : ∀ {w O}, Q w O → ∀ i, O i → i < w.heap.size
  stay : ∀ {w w' O}, Q w O → (∀ i, O i → w'.heap[i]? = w.heap[i]?) → w.heap.size ≤ w'.heap.size → Q w' O
theorem LetterK.papS (K : LetterK) (v : Value) (st : Option (List Nat)) (m : Nat) : Stay (K.Pap v st m) := ⟨K.papIn, K.papStay⟩
theorem LetterK.eyeS (K : LetterK) (v : Value) (l : List Nat) (er : Int) : Stay (K.Eye v l er) := ⟨K.eyeIn, K.eyeStay⟩

/-- Boxes of the call's own beside an object, all apart. -/
def Lw (w0 : World) (bs : List (Nat × TypeId × List Value)) (Q : World → (Nat → Prop) → Prop) (wr : World) : Prop :=
  ∃ O : Nat → Prop, Bxs w0 bs wr ∧ (∀ (i : Nat) (p : Nat × TypeId × List Value), bs[i]? = some p → ¬ O p.1) ∧ (∀ i, O i → w0.heap.size ≤ i) ∧ Q wr O
section
variable {w0 wr w' : World} {bs : List (Nat × TypeId × List Value)} {Q Q' : World → (Nat → Prop) → Prop}
theorem Lw.bx (h : Lw w0 bs Q wr) : Bxs w0 bs wr := by obtain ⟨_, h, _⟩ := h; exact h
theorem Lw.old (h : Lw w0 bs Q wr) : Old w0 wr := h.bx.old
theorem Lw.row (h : Lw w0 bs Q wr) (i : Nat) {g : Nat} {t : TypeId} {vs : List Value} (hi : bs[i]? = some (g, t, vs)) : Row wr g t vs := h.bx.row i hi
theorem Lw.start (b : Bxs w0 bs wr) (o : Old wr w') {O : Nat → Prop} (hO : ∀ i, O i → wr.heap.size ≤ i) (q : Q w' O) : Lw w0 bs Q w' :=
  ⟨O, b.mono o, fun i p hp ho => by have := hO _ ho; have := (b.rows i p hp).2.lt; omega, fun i hi => Nat.le_trans b.old.size (hO i hi), q⟩
theorem Lw.mono (S : Stay Q) (h : Lw w0 bs Q wr) (o : Old wr w') : Lw w0 bs Q w' := by
  obtain ⟨O, h1, h2, h3, h4⟩ := h
  exact ⟨O, h1.mono o, h2, h3, S.stay h4 (fun i hi => o.block i (S.isIn h4 i hi)) o.size⟩
theorem Lw.alloc (S : Stay Q) (h : Lw w0 bs Q wr) (t : TypeId) (vs : List Value) {g : Nat} (hg : g = wr.heap.size) : Lw w0 (bs ++ [(g, t, vs)]) Q (wr.alloc (.cells vs.toArray t)) := by
  obtain ⟨O, h1, h2, h3, h4⟩ := h
  have o := Old.of_alloc wr (.cells vs.toArray t)
  refine ⟨O, h1.alloc t vs hg, fun i p hp => ?_, h3, S.stay h4 (fun i hi => o.block i (S.isIn h4 i hi)) o.size⟩
  by_cases hi : i < bs.length
  · rw [List.getElem?_append_left hi] at hp; exact h2 i p hp
  · rw [List.getElem?_append_right (by omega)] at hp
    have h0 : i - bs.length = 0 := by
      by_cases h0 : i - bs.length = 0
      · exact h0
      · rw [List.getElem?_eq_none (by simp; omega)] at hp; cases hp
    rw [h0] at hp
    obtain rfl : (g, t, vs) = p := by simpa using hp
    intro ho
    have := S.isIn h4 _ ho
    omega
theorem Lw.grown (S : Stay Q) (h : Lw w0 bs Q wr) (i : Nat) {g : Nat} {t : TypeId} {vs vs' : List Value} (hi : bs[i]? = some (g, t, vs)) (gr : wr.grownBy w' (some g)) (R : Row w' g t vs') : Lw w0 (bs.set i (g, t, vs')) Q w' := by
  obtain ⟨O, h1, h2, h3, h4⟩ := h
  have hg : ¬ O g := h2 i _ hi
  refine ⟨O, h1.grown i hi gr R, fun j p hp => ?_, h3, S.stay h4 (fun k hk => gr.block k (S.isIn h4 k hk) (fun e => hg (by cases e; exact hk))) gr.size⟩
  rw [List.getElem?_set] at hp
  split at hp
  · split at hp
    · obtain rfl : (g, t, vs') = p := by simpa using hp
      exact hg
    · cases hp
  · exact h2 j p hp
theorem Lw.store (S : Stay Q) (h : Lw w0 bs Q wr) (i : Nat) {g : Nat} {t : TypeId} {vs : List Value} (hi : bs[i]? = some (g, t, vs)) (vs' : List Value) (e : w' = wr.setRow g vs'.toArray) : Lw w0 (bs.set i (g, t, vs')) Q w' := by
  subst e
  exact h.grown S i hi (grown_setRow _ _ _) ((h.row i hi).whole _)
theorem Lw.turn (h : Lw w0 bs Q wr) {O : Nat → Prop} (h2 : ∀ (i : Nat) (p : Nat × TypeId × List Value), bs[i]? = some p → ¬ O p.1) (h3 : ∀ i, O i → w0.heap.size ≤ i) (t : Turns O wr w' Q') : Lw w0 bs Q' w' := by
  obtain ⟨O', k, hO, q⟩ := t
  have b := h.bx
  refine ⟨O', ⟨fun i p hp => ⟨(b.rows i p hp).1, k.row (b.rows i p hp).2 (h2 i p hp)⟩, b.nd, k.old b.old h3⟩, fun i p hp ho => ?_, fun i hi => ?_, q⟩
  · rcases hO _ ho with h' | h'
    · exact h2 i p hp h'
    · have := (b.rows i p hp).2.lt; omega
  · rcases hO _ hi with h' | h'
    · exact h3 i h'
    · exact Nat.le_trans b.old.size h'
theorem Lw.take (h : Lw w0 bs Q wr) (n : Nat) : Lw w0 (bs.take n) Q wr := by
  obtain ⟨O, h1, h2, h3, h4⟩ := h
  refine ⟨O, h1.take n, fun i p hp => ?_, h3, h4⟩
  rw [List.getElem?_take] at hp
  split at hp
  · exact h2 i p hp
  · cases hp
variable {K : LetterK} {v : Value} {st : Option (List Nat)} {m : Nat} {l : List Nat} {er : Int}
theorem Lw.small (h : Lw w0 bs (K.Pap v st m) wr) (n : Int) (hm : m ≤ 4000000) (hn : -9223372036854775808 ≤ n ∧ n ≤ 9223372036854775807) :
    Calls Try.prog 10 #[v, .int .i64 n] wr fun e w' => e = .returned v ∧ Lw w0 bs (K.Pap v (smallP st n) (m + 4)) w' := by
  have hh := h
  obtain ⟨O, h1, h2, h3, h4⟩ := h
  exact (K.small v st m O n wr h4 hm hn).mono fun _ _ ⟨e, t⟩ => ⟨e, hh.turn h2 h3 t⟩
theorem Lw.great (h : Lw w0 bs (K.Pap v st m) wr) (n : Nat) (hm : m ≤ 4000000) (hn : n < 18446744073709551616) :
    Calls Try.prog 12 #[v, .int .u64 (n : Nat)] wr fun e w' => e = .returned v ∧ Lw w0 bs (K.Pap v (greatP st n) (m + 8)) w' := by
  have hh := h
  obtain ⟨O, h1, h2, h3, h4⟩ := h
  exact (K.great v st m O n wr h4 hm hn).mono fun _ _ ⟨e, t⟩ => ⟨e, hh.turn h2 h3 t⟩
theorem Lw.bytes (h : Lw w0 bs (K.Pap v st m) wr) (b : Option Addr) (n cap : Nat) (xs : List Nat) (hm : m ≤ 4000000) (B : By14 wr b n cap xs) (hn : n ≤ 100000) (hb : ∀ a, 0 < xs.length → b = some a → a.block < w0.heap.size ∨ ∃ (i : Nat) (p : Nat × TypeId × List Value), bs[i]? = some p ∧ p.1 = a.block) :
    Calls Try.prog 14 #[v, .slice b n cap] wr fun e w' => e = .returned v ∧ Lw w0 bs (K.Pap v (bytesP st xs) (m + 4 + n)) w' := by
  have hh := h
  obtain ⟨O, h1, h2, h3, h4⟩ := h
  refine (K.bytes v st m O b n cap xs wr h4 hm B hn (fun a h0 ha ho => ?_)).mono fun _ _ ⟨e, t⟩ => ⟨e, hh.turn h2 h3 t⟩
  rcases hb a h0 ha with h' | ⟨i, p, hp, hq⟩
  · have := h3 _ ho; omega
  · exact h2 i p hp (hq ▸ ho)
/-- What Seal hands back. -/
def SealR (w0 : World) (bs : List (Nat × TypeId × List Value)) (st : Option (List Nat)) (w : World) (e : Ending) (w' : World) : Prop :=
  ∃ r, e = .returned (.tuple #[r, .int .i64 (sealE st)]) ∧ Bxs w0 bs w' ∧ w.heap.size ≤ w'.heap.size ∧ (sealE st = 0 → ∃ g cap rest, r = .slice (some ⟨g, 0, none⟩) (sealS st).length cap ∧ w.heap.size ≤ g ∧ (sealS st).length ≤ cap ∧ Row w' g 5 (nums .u8 (sealS st) ++ rest)) ∧ (sealE st ≠ 0 → ∃ a cap, r = .slice a 0 cap)
theorem Lw.sealed_ (h : Lw w0 bs (K.Pap v st m) wr) (hm : m ≤ 4000000) :
    Calls Try.prog 16 #[v] wr fun e w' => SealR w0 bs st wr e w' := by
  obtain ⟨O, h1, h2, h3, h4⟩ := h
  exact (K.seal_ v st m O wr h4 hm).mono fun _ _ ⟨r, e, k, ok, bad⟩ => ⟨r, e, ⟨fun i p hp => ⟨(h1.rows i p hp).1, k.row (h1.rows i p hp).2 (h2 i p hp)⟩, h1.nd, k.old h1.old h3⟩, k.size, ok, bad⟩
theorem Lw.eSmall (h : Lw w0 bs (K.Eye v l er) wr) :
    Calls Try.prog 21 #[v] wr fun e w' => e = .returned (.int .i64 ((nmN l er 4 : Nat) : Int)) ∧ Lw w0 bs (K.Eye v (tkL l er 4) (tkE l er 4)) w' := by
  have hh := h
  obtain ⟨O, h1, h2, h3, h4⟩ := h
  exact (K.eSmall v l er O wr h4).mono fun _ _ ⟨e, t⟩ => ⟨e, hh.turn h2 h3 t⟩
theorem Lw.eGreat (h : Lw w0 bs (K.Eye v l er) wr) :
    Calls Try.prog 22 #[v] wr fun e w' => e = .returned (.int .u64 ((nmN l er 8 : Nat) : Int)) ∧ Lw w0 bs (K.Eye v (tkL l er 8) (tkE l er 8)) w' := by
  have hh := h
  obtain ⟨O, h1, h2, h3, h4⟩ := h
  exact (K.eGreat v l er O wr h4).mono fun _ _ ⟨e, t⟩ => ⟨e, hh.turn h2 h3 t⟩
theorem Lw.eBytes (h : Lw w0 bs (K.Eye v l er) wr) :
    Calls Try.prog 24 #[v] wr fun e w' => ∃ a cap, e = .returned (.slice a (tkS (tkL l er 4) (tkE l er 4) (nmN l er 4)).length cap) ∧ Rd w' a (nums .u8 (tkS (tkL l er 4) (tkE l er 4) (nmN l er 4))) ∧ Lw w0 bs (K.Eye v (tkL (tkL l er 4) (tkE l er 4) (nmN l er 4)) (tkE (tkL l er 4) (tkE l er 4) (nmN l er 4))) w' := by
  have hh := h
  obtain ⟨O, h1, h2, h3, h4⟩ := h
  exact (K.eBytes v l er O wr h4).mono fun _ _ ⟨a, cap, e, r, t⟩ => ⟨a, cap, e, r, hh.turn h2 h3 t⟩
theorem Lw.eEnd (h : Lw w0 bs (K.Eye v l er) wr) :
    Calls Try.prog 25 #[v] wr fun e w' => e = .returned (.int .i64 (endE l er)) ∧ Lw w0 bs (K.Eye v l (endE l er)) w' := by
  have hh := h
  obtain ⟨O, h1, h2, h3, h4⟩ := h
  exact (K.eEnd v l er O wr h4).mono fun _ _ ⟨e, t⟩ => ⟨e, hh.turn h2 h3 t⟩
theorem Lw.blank (b : Bxs w0 bs wr) : Calls Try.prog 8 #[] wr fun e w' => ∃ v, e = .returned v ∧ Lw w0 bs (K.Pap v (some []) 0) w' :=
  (K.blank wr).mono fun _ _ ⟨v, O, e, o, hO, q⟩ => ⟨v, e, Lw.start b o hO q⟩
theorem Lw.look (b : Bxs w0 bs wr) {a : Option Addr} {n cap : Nat} {xs : List Nat} (B : By14 wr a n cap xs) : Calls Try.prog 18 #[.slice a n cap] wr fun e w' => ∃ v, e = .returned v ∧ Lw w0 bs (K.Eye v (opL xs) (opE xs)) w' :=
  (K.look a n cap xs wr B).mono fun _ _ ⟨v, O, e, o, hO, q⟩ => ⟨v, e, Lw.start b o hO q⟩
end
end Go.Proofs.Ytccphdngmhfmnaa
