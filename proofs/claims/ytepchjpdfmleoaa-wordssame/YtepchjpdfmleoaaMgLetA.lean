/-
  MgLetA: 2 parts, one behind the other; what each proves, and under which conditions, its own heading says.
-/
import Derived.Test.YtepchjpdfmleoaaRefTake

/-
  What layer 14's calls owe, told by values alone (the walks of its statements ask no more). A Paper and an Eye lie in blocks of their own (O), which nobody else holds.
-/
namespace Go.Proofs.Ytepchjpdfmleoaa
open Go.RowKit Cn
set_option linter.unusedVariables false

/-- All but the blocks that O names is as it was. -/
structure Kept (O : Nat → Prop) (w w' : World) : Prop where
  os : w'.os = w.os
  tape : w'.tape = w.tape
  output : w'.output = w.output
  size : w.heap.size ≤ w'.heap.size
  block : ∀ k, k < w.heap.size → ¬ O k → w'.heap[k]? = w.heap[k]?
theorem Kept.row {O : Nat → Prop} {w w' : World} (h : Kept O w w') {g : Nat} {t : TypeId} {vs : List Value} (R : Row w g t vs) (hg : ¬ O g) : Row w' g t vs := (h.block g R.lt hg).trans R
theorem Kept.old {O : Nat → Prop} {w0 w w' : World} (h : Kept O w w') (o : Old w0 w) (hO : ∀ i, O i → w0.heap.size ≤ i) : Old w0 w' :=
  ⟨h.os.trans o.os, h.tape.trans o.tape, h.output.trans o.output, Nat.le_trans o.size h.size, fun k hk => (h.block k (Nat.lt_of_lt_of_le hk o.size) (fun ho => by have := hO k ho; omega)).trans (o.block k hk)⟩
theorem Kept.of_old {O : Nat → Prop} {w w' : World} (o : Old w w') : Kept O w w' := ⟨o.os, o.tape, o.output, o.size, fun k hk _ => o.block k hk⟩

/-- What a Paper's calls make of it: its fields (none: a Small was out of range), and a bound on how many bytes it may hold. -/
def smallP (st : Option (List Nat)) (n : Int) : Option (List Nat) := if 0 ≤ n ∧ n < 4294967296 then st.map (· ++ le4 n.toNat) else none
def greatP (st : Option (List Nat)) (n : Nat) : Option (List Nat) := st.map (· ++ le8 n)
def bytesP (st : Option (List Nat)) (xs : List Nat) : Option (List Nat) := st.map (· ++ fieldB xs)
def sealE : Option (List Nat) → Int
  | none => 4
  | some s => if 65536 < s.length then 6 else 0
def sealS : Option (List Nat) → List Nat
  | none => []
  | some s => sealed s
/-- What End says. -/
def endE (l : List Nat) (er : Int) : Int := if er ≠ 0 then er else if l.length = 0 then 0 else 2

/-- What is known of bytes that came in. -/
structure By14 (w : World) (b : Option Addr) (n cap : Nat) (xs : List Nat) : Prop where
  len : xs.length = n
  room : n ≤ cap
  small : n ≤ 9223372036854775807
  each : ∀ x ∈ xs, x < 256
  rd : Rd w b (nums .u8 xs)
theorem By14.mono {w w' : World} {b : Option Addr} {n cap : Nat} {xs : List Nat} (h : By14 w b n cap xs) (o : Old w w') : By14 w' b n cap xs := ⟨h.len, h.room, h.small, h.each, h.rd.mono o⟩

/-- What a call of an object's does to the world: its own blocks may turn, and new ones are its own. -/
def Turns (O : Nat → Prop) (w w' : World) (Q : World → (Nat → Prop) → Prop) : Prop := ∃ O' : Nat → Prop, Kept O w w' ∧ (∀ i, O' i → O i ∨ w.heap.size ≤ i) ∧ Q w' O'

structure LetterK where
  Pap : Value → Option (List Nat) → Nat → World → (Nat → Prop) → Prop
  Eye : Value → List Nat → Int → World → (Nat → Prop) → Prop
  papIn : ∀ {v st m w O}, Pap v st m w O → ∀ i, O i → i < w.heap.size
  papStay : ∀ {v st m w w' O}, Pap v st m w O → (∀ i, O i → w'.heap[i]? = w.heap[i]?) → w.heap.size ≤ w'.heap.size → Pap v st m w' O
  papPtr : ∀ {v st m w O}, Pap v st m w O → ∃ a, v = .pointer (some a)
  eyeIn : ∀ {v l er w O}, Eye v l er w O → ∀ i, O i → i < w.heap.size
  eyeStay : ∀ {v l er w w' O}, Eye v l er w O → (∀ i, O i → w'.heap[i]? = w.heap[i]?) → w.heap.size ≤ w'.heap.size → Eye v l er w' O
  eyePtr : ∀ {v l er w O}, Eye v l er w O → ∃ a, v = .pointer (some a)
  blank : ∀ w : World, Calls Try.prog 23 #[] w fun e w' => ∃ v O, e = .returned v ∧ Old w w' ∧ (∀ i, O i → w.heap.size ≤ i) ∧ Pap v (some []) 0 w' O
  small : ∀ (v : Value) (st : Option (List Nat)) (m : Nat) (O : Nat → Prop) (n : Int) (w : World), Pap v st m w O → m ≤ 4000000 → -9223372036854775808 ≤ n ∧ n ≤ 9223372036854775807 →
    Calls Try.prog 55 #[v, .int .i64 n] w fun e w' => e = .returned v ∧ Turns O w w' (Pap v (smallP st n) (m + 4))
  great : ∀ (v : Value) (st : Option (List Nat)) (m : Nat) (O : Nat → Prop) (n : Nat) (w : World), Pap v st m w O → m ≤ 4000000 → n < 18446744073709551616 →
    Calls Try.prog 89 #[v, .int .u64 (n : Nat)] w fun e w' => e = .returned v ∧ Turns O w w' (Pap v (greatP st n) (m + 8))
  bytes : ∀ (v : Value) (st : Option (List Nat)) (m : Nat) (O : Nat → Prop) (b : Option Addr) (n cap : Nat) (xs : List Nat) (w : World), Pap v st m w O → m ≤ 4000000 → By14 w b n cap xs → n ≤ 100000 → (∀ a, 0 < xs.length → b = some a → ¬ O a.block) →
    Calls Try.prog 90 #[v, .slice b n cap] w fun e w' => e = .returned v ∧ Turns O w w' (Pap v (bytesP st xs) (m + 4 + n))
  seal_ : ∀ (v : Value) (st : Option (List Nat)) (m : Nat) (O : Nat → Prop) (w : World), Pap v st m w O → m ≤ 4000000 →
    Calls Try.prog 25 #[v] w fun e w' => ∃ r, e = .returned (.tuple #[r, .int .i64 (sealE st)]) ∧ Kept O w w' ∧ (sealE st = 0 → ∃ g cap rest, r = .slice (some ⟨g, 0, none⟩) (sealS st).length cap ∧ w.heap.size ≤ g ∧ (sealS st).length ≤ cap ∧ Row w' g 5 (nums .u8 (sealS st) ++ rest)) ∧ (sealE st ≠ 0 → ∃ a cap, r = .slice a 0 cap)
  look : ∀ (b : Option Addr) (n cap : Nat) (xs : List Nat) (w : World), By14 w b n cap xs →
    Calls Try.prog 26 #[.slice b n cap] w fun e w' => ∃ v O, e = .returned v ∧ Old w w' ∧ (∀ i, O i → w.heap.size ≤ i) ∧ Eye v (opL xs) (opE xs) w' O
  eSmall : ∀ (v : Value) (l : List Nat) (er : Int) (O : Nat → Prop) (w : World), Eye v l er w O →
    Calls Try.prog 69 #[v] w fun e w' => e = .returned (.int .i64 ((nmN l er 4 : Nat) : Int)) ∧ Turns O w w' (Eye v (tkL l er 4) (tkE l er 4))
  eGreat : ∀ (v : Value) (l : List Nat) (er : Int) (O : Nat → Prop) (w : World), Eye v l er w O →
    Calls Try.prog 98 #[v] w fun e w' => e = .returned (.int .u64 ((nmN l er 8 : Nat) : Int)) ∧ Turns O w w' (Eye v (tkL l er 8) (tkE l er 8))
  eBytes : ∀ (v : Value) (l : List Nat) (er : Int) (O : Nat → Prop) (w : World), Eye v l er w O →
    Calls Try.prog 99 #[v] w fun e w' => ∃ a cap, e = .returned (.slice a (tkS (tkL l er 4) (tkE l er 4) (nmN l er 4)).length cap) ∧ Rd w' a (nums .u8 (tkS (tkL l er 4) (tkE l er 4) (nmN l er 4))) ∧ Turns O w w' (Eye v (tkL (tkL l er 4) (tkE l er 4) (nmN l er 4)) (tkE (tkL l er 4) (tkE l er 4) (nmN l er 4)))
  eEnd : ∀ (v : Value) (l : List Nat) (er : Int) (O : Nat → Prop) (w : World), Eye v l er w O →
    Calls Try.prog 28 #[v] w fun e w' => e = .returned (.int .i64 (endE l er)) ∧ Turns O w w' (Eye v l (endE l er))
  check : ∀ (b : Option Addr) (n cap : Nat) (xs : List Nat) (w : World), By14 w b n cap xs → n ≤ 1000000 →
    Calls Try.prog 94 #[.slice b n cap] w fun e w' => e = .returned (.int .u32 ((crc xs : Nat) : Int)) ∧ Old w w'
  smallN : ∀ (n : Int) (w : World), Calls Try.prog 55 #[.pointer none, .int .i64 n] w fun e w' => e = .returned (.pointer none) ∧ Old w w'
  greatN : ∀ (n : Nat) (w : World), Calls Try.prog 89 #[.pointer none, .int .u64 (n : Nat)] w fun e w' => e = .returned (.pointer none) ∧ Old w w'
  bytesN : ∀ (b : Option Addr) (n cap : Nat) (w : World), Calls Try.prog 90 #[.pointer none, .slice b n cap] w fun e w' => e = .returned (.pointer none) ∧ Old w w'
  sealN : ∀ w : World, Calls Try.prog 25 #[.pointer none] w fun e w' => ∃ a cap, e = .returned (.tuple #[.slice a 0 cap, .int .i64 1]) ∧ Old w w'
  eSmallN : ∀ w : World, Calls Try.prog 69 #[.pointer none] w fun e w' => e = .returned (.int .i64 0) ∧ Old w w'
  eGreatN : ∀ w : World, Calls Try.prog 98 #[.pointer none] w fun e w' => e = .returned (.int .u64 0) ∧ Old w w'
  eBytesN : ∀ w : World, Calls Try.prog 99 #[.pointer none] w fun e w' => ∃ a cap, e = .returned (.slice a 0 cap) ∧ Old w w'
  eEndN : ∀ w : World, Calls Try.prog 28 #[.pointer none] w fun e w' => e = .returned (.int .i64 1) ∧ Old w w'

/-- An object's own saying outlasts what leaves its blocks alone. -/
structure Stay (Q : World → (Nat → Prop) → Prop) : Prop where
  isIn : ∀ {w O}, Q w O → ∀ i, O i → i < w.heap.size
  stay : ∀ {w w' O}, Q w O → (∀ i, O i → w'.heap[i]? = w.heap[i]?) → w.heap.size ≤ w'.heap.size → Q w' O
theorem LetterK.papS (K : LetterK) (v : Value) (st : Option (List Nat)) (m : Nat) : Stay (K.Pap v st m) := ⟨K.papIn, K.papStay⟩
theorem LetterK.eyeS (K : LetterK) (v : Value) (l : List Nat) (er : Int) : Stay (K.Eye v l er) := ⟨K.eyeIn, K.eyeStay⟩

/-- Boxes of the call's own beside an object, all apart. -/
def Lw (w0 : World) (bs : List (Nat × TypeId × List Value)) (Q : World → (Nat → Prop) → Prop) (wr : World) : Prop :=
  ∃ O : Nat → Prop, Bxs w0 bs wr ∧ (∀ (i : Nat) (p : Nat × TypeId × List Value), bs[i]? = some p → ¬ O p.1) ∧ (∀ i, O i → w0.heap.size ≤ i) ∧ Q wr O
section
variable {w0 wr w' : World} {bs : List (Nat × TypeId × List Value)} {Q Q' : World → (Nat → Prop) → Prop}
theorem Lw.bx (h : Lw w0 bs Q wr) : Bxs w0 bs wr := by obtain ⟨_, h, _⟩ := h; exact h
theorem Lw.old (h : Lw w0 bs Q wr) : Old w0 wr := h.bx.old
theorem Lw.row (h : Lw w0 bs Q wr) (i : Nat) {g : Nat} {t : TypeId} {vs : List Value} (hi : bs[i]? = some (g, t, vs)) : Row wr g t vs := h.bx.row i hi
theorem Lw.start (b : Bxs w0 bs wr) (o : Old wr w') {O : Nat → Prop} (hO : ∀ i, O i → wr.heap.size ≤ i) (q : Q w' O) : Lw w0 bs Q w' :=
  ⟨O, b.mono o, fun i p hp ho => by have := hO _ ho; have := (b.rows i p hp).2.lt; omega, fun i hi => Nat.le_trans b.old.size (hO i hi), q⟩
theorem Lw.mono (S : Stay Q) (h : Lw w0 bs Q wr) (o : Old wr w') : Lw w0 bs Q w' := by
  obtain ⟨O, h1, h2, h3, h4⟩ := h
  exact ⟨O, h1.mono o, h2, h3, S.stay h4 (fun i hi => o.block i (S.isIn h4 i hi)) o.size⟩
theorem Lw.alloc (S : Stay Q) (h : Lw w0 bs Q wr) (t : TypeId) (vs : List Value) {g : Nat} (hg : g = wr.heap.size) : Lw w0 (bs ++ [(g, t, vs)]) Q (wr.alloc (.cells vs.toArray t)) := by
  obtain ⟨O, h1, h2, h3, h4⟩ := h
  have o := Old.of_alloc wr (.cells vs.toArray t)
  refine ⟨O, h1.alloc t vs hg, fun i p hp => ?_, h3, S.stay h4 (fun i hi => o.block i (S.isIn h4 i hi)) o.size⟩
  by_cases hi : i < bs.length
  · rw [List.getElem?_append_left hi] at hp; exact h2 i p hp
  · rw [List.getElem?_append_right (by omega)] at hp
    have h0 : i - bs.length = 0 := by
      by_cases h0 : i - bs.length = 0
      · exact h0
      · rw [List.getElem?_eq_none (by simp; omega)] at hp; cases hp
    rw [h0] at hp
    obtain rfl : (g, t, vs) = p := by simpa using hp
    intro ho
    have := S.isIn h4 _ ho
    omega
theorem Lw.grown (S : Stay Q) (h : Lw w0 bs Q wr) (i : Nat) {g : Nat} {t : TypeId} {vs vs' : List Value} (hi : bs[i]? = some (g, t, vs)) (gr : wr.grownBy w' (some g)) (R : Row w' g t vs') : Lw w0 (bs.set i (g, t, vs')) Q w' := by
  obtain ⟨O, h1, h2, h3, h4⟩ := h
  have hg : ¬ O g := h2 i _ hi
  refine ⟨O, h1.grown i hi gr R, fun j p hp => ?_, h3, S.stay h4 (fun k hk => gr.block k (S.isIn h4 k hk) (fun e => hg (by cases e; exact hk))) gr.size⟩
  rw [List.getElem?_set] at hp
  split at hp
  · split at hp
    · obtain rfl : (g, t, vs') = p := by simpa using hp
      exact hg
    · cases hp
  · exact h2 j p hp
theorem Lw.store (S : Stay Q) (h : Lw w0 bs Q wr) (i : Nat) {g : Nat} {t : TypeId} {vs : List Value} (hi : bs[i]? = some (g, t, vs)) (vs' : List Value) (e : w' = wr.setRow g vs'.toArray) : Lw w0 (bs.set i (g, t, vs')) Q w' := by
  subst e
  exact h.grown S i hi (grown_setRow _ _ _) ((h.row i hi).whole _)
theorem Lw.turn (h : Lw w0 bs Q wr) {O : Nat → Prop} (h2 : ∀ (i : Nat) (p : Nat × TypeId × List Value), bs[i]? = some p → ¬ O p.1) (h3 : ∀ i, O i → w0.heap.size ≤ i) (t : Turns O wr w' Q') : Lw w0 bs Q' w' := by
  obtain ⟨O', k, hO, q⟩ := t
  have b := h.bx
  refine ⟨O', ⟨fun i p hp => ⟨(b.rows i p hp).1, k.row (b.rows i p hp).2 (h2 i p hp)⟩, b.nd, k.old b.old h3⟩, fun i p hp ho => ?_, fun i hi => ?_, q⟩
  · rcases hO _ ho with h' | h'
    · exact h2 i p hp h'
    · have := (b.rows i p hp).2.lt; omega
  · rcases hO _ hi with h' | h'
    · exact h3 i h'
    · exact Nat.le_trans b.old.size h'
theorem Lw.take (h : Lw w0 bs Q wr) (n : Nat) : Lw w0 (bs.take n) Q wr := by
  obtain ⟨O, h1, h2, h3, h4⟩ := h
  refine ⟨O, h1.take n, fun i p hp => ?_, h3, h4⟩
  rw [List.getElem?_take] at hp
  split at hp
  · exact h2 i p hp
  · cases hp
variable {K : LetterK} {v : Value} {st : Option (List Nat)} {m : Nat} {l : List Nat} {er : Int}
theorem Lw.small (h : Lw w0 bs (K.Pap v st m) wr) (n : Int) (hm : m ≤ 4000000) (hn : -9223372036854775808 ≤ n ∧ n ≤ 9223372036854775807) :
    Calls Try.prog 55 #[v, .int .i64 n] wr fun e w' => e = .returned v ∧ Lw w0 bs (K.Pap v (smallP st n) (m + 4)) w' := by
  have hh := h
  obtain ⟨O, h1, h2, h3, h4⟩ := h
  exact (K.small v st m O n wr h4 hm hn).mono fun _ _ ⟨e, t⟩ => ⟨e, hh.turn h2 h3 t⟩
theorem Lw.great (h : Lw w0 bs (K.Pap v st m) wr) (n : Nat) (hm : m ≤ 4000000) (hn : n < 18446744073709551616) :
    Calls Try.prog 89 #[v, .int .u64 (n : Nat)] wr fun e w' => e = .returned v ∧ Lw w0 bs (K.Pap v (greatP st n) (m + 8)) w' := by
  have hh := h
  obtain ⟨O, h1, h2, h3, h4⟩ := h
  exact (K.great v st m O n wr h4 hm hn).mono fun _ _ ⟨e, t⟩ => ⟨e, hh.turn h2 h3 t⟩
theorem Lw.bytes (h : Lw w0 bs (K.Pap v st m) wr) (b : Option Addr) (n cap : Nat) (xs : List Nat) (hm : m ≤ 4000000) (B : By14 wr b n cap xs) (hn : n ≤ 100000) (hb : ∀ a, 0 < xs.length → b = some a → a.block < w0.heap.size ∨ ∃ (i : Nat) (p : Nat × TypeId × List Value), bs[i]? = some p ∧ p.1 = a.block) :
    Calls Try.prog 90 #[v, .slice b n cap] wr fun e w' => e = .returned v ∧ Lw w0 bs (K.Pap v (bytesP st xs) (m + 4 + n)) w' := by
  have hh := h
  obtain ⟨O, h1, h2, h3, h4⟩ := h
  refine (K.bytes v st m O b n cap xs wr h4 hm B hn (fun a h0 ha ho => ?_)).mono fun _ _ ⟨e, t⟩ => ⟨e, hh.turn h2 h3 t⟩
  rcases hb a h0 ha with h' | ⟨i, p, hp, hq⟩
  · have := h3 _ ho; omega
  · exact h2 i p hp (hq ▸ ho)
/-- What Seal hands back. -/
def SealR (w0 : World) (bs : List (Nat × TypeId × List Value)) (st : Option (List Nat)) (w : World) (e : Ending) (w' : World) : Prop :=
  ∃ r, e = .returned (.tuple #[r, .int .i64 (sealE st)]) ∧ Bxs w0 bs w' ∧ w.heap.size ≤ w'.heap.size ∧ (sealE st = 0 → ∃ g cap rest, r = .slice (some ⟨g, 0, none⟩) (sealS st).length cap ∧ w.heap.size ≤ g ∧ (sealS st).length ≤ cap ∧ Row w' g 5 (nums .u8 (sealS st) ++ rest)) ∧ (sealE st ≠ 0 → ∃ a cap, r = .slice a 0 cap)
theorem Lw.sealed_ (h : Lw w0 bs (K.Pap v st m) wr) (hm : m ≤ 4000000) :
    Calls Try.prog 25 #[v] wr fun e w' => SealR w0 bs st wr e w' := by
  obtain ⟨O, h1, h2, h3, h4⟩ := h
  exact (K.seal_ v st m O wr h4 hm).mono fun _ _ ⟨r, e, k, ok, bad⟩ => ⟨r, e, ⟨fun i p hp => ⟨(h1.rows i p hp).1, k.row (h1.rows i p hp).2 (h2 i p hp)⟩, h1.nd, k.old h1.old h3⟩, k.size, ok, bad⟩
theorem Lw.eSmall (h : Lw w0 bs (K.Eye v l er) wr) :
    Calls Try.prog 69 #[v] wr fun e w' => e = .returned (.int .i64 ((nmN l er 4 : Nat) : Int)) ∧ Lw w0 bs (K.Eye v (tkL l er 4) (tkE l er 4)) w' := by
  have hh := h
  obtain ⟨O, h1, h2, h3, h4⟩ := h
  exact (K.eSmall v l er O wr h4).mono fun _ _ ⟨e, t⟩ => ⟨e, hh.turn h2 h3 t⟩
theorem Lw.eGreat (h : Lw w0 bs (K.Eye v l er) wr) :
    Calls Try.prog 98 #[v] wr fun e w' => e = .returned (.int .u64 ((nmN l er 8 : Nat) : Int)) ∧ Lw w0 bs (K.Eye v (tkL l er 8) (tkE l er 8)) w' := by
  have hh := h
  obtain ⟨O, h1, h2, h3, h4⟩ := h
  exact (K.eGreat v l er O wr h4).mono fun _ _ ⟨e, t⟩ => ⟨e, hh.turn h2 h3 t⟩
theorem Lw.eBytes (h : Lw w0 bs (K.Eye v l er) wr) :
    Calls Try.prog 99 #[v] wr fun e w' => ∃ a cap, e = .returned (.slice a (tkS (tkL l er 4) (tkE l er 4) (nmN l er 4)).length cap) ∧ Rd w' a (nums .u8 (tkS (tkL l er 4) (tkE l er 4) (nmN l er 4))) ∧ Lw w0 bs (K.Eye v (tkL (tkL l er 4) (tkE l er 4) (nmN l er 4)) (tkE (tkL l er 4) (tkE l er 4) (nmN l er 4))) w' := by
  have hh := h
  obtain ⟨O, h1, h2, h3, h4⟩ := h
  exact (K.eBytes v l er O wr h4).mono fun _ _ ⟨a, cap, e, r, t⟩ => ⟨a, cap, e, r, hh.turn h2 h3 t⟩
theorem Lw.eEnd (h : Lw w0 bs (K.Eye v l er) wr) :
    Calls Try.prog 28 #[v] wr fun e w' => e = .returned (.int .i64 (endE l er)) ∧ Lw w0 bs (K.Eye v l (endE l er)) w' := by
  have hh := h
  obtain ⟨O, h1, h2, h3, h4⟩ := h
  exact (K.eEnd v l er O wr h4).mono fun _ _ ⟨e, t⟩ => ⟨e, hh.turn h2 h3 t⟩
theorem Lw.blank (b : Bxs w0 bs wr) : Calls Try.prog 23 #[] wr fun e w' => ∃ v, e = .returned v ∧ Lw w0 bs (K.Pap v (some []) 0) w' :=
  (K.blank wr).mono fun _ _ ⟨v, O, e, o, hO, q⟩ => ⟨v, e, Lw.start b o hO q⟩
theorem Lw.look (b : Bxs w0 bs wr) {a : Option Addr} {n cap : Nat} {xs : List Nat} (B : By14 wr a n cap xs) : Calls Try.prog 26 #[.slice a n cap] wr fun e w' => ∃ v, e = .returned v ∧ Lw w0 bs (K.Eye v (opL xs) (opE xs)) w' :=
  (K.look a n cap xs wr B).mono fun _ _ ⟨v, O, e, o, hO, q⟩ => ⟨v, e, Lw.start b o hO q⟩
end
end Go.Proofs.Ytepchjpdfmleoaa

/-
  Package letter: what Check, lowestFirst, number, checkBytes and slices.Equal of bytes answer.
-/
namespace Go.Proofs.Ytepchjpdfmleoaa
open Go.RowKit Cn
set_option linter.unusedVariables false

namespace Cn
/-- A bit goes out. -/
def sft (n : Nat) : Nat := if n % 2 = 1 then (n / 2) ^^^ poly else n / 2
def sfts : Nat → Nat → Nat
  | 0, n => n
  | k + 1, n => sft (sfts k n)
theorem xor_half (a b : Nat) : (a ^^^ b) / 2 = (a / 2) ^^^ (b / 2) := by
  apply Nat.eq_of_testBit_eq
  intro i
  rw [← Nat.testBit_succ, Nat.testBit_xor, Nat.testBit_xor, ← Nat.testBit_succ, ← Nat.testBit_succ]
theorem xor_odd (a b : Nat) : (a ^^^ b) % 2 = (a + b) % 2 := by
  have h : (a ^^^ b).testBit 0 = (a.testBit 0 ^^ b.testBit 0) := Nat.testBit_xor ..
  simp only [Nat.testBit_zero] at h
  have h1 : ((a ^^^ b) % 2 = 1) ↔ ¬ (a % 2 = 1 ↔ b % 2 = 1) := by
    rcases Nat.mod_two_eq_zero_or_one a with ha | ha <;> rcases Nat.mod_two_eq_zero_or_one b with hb | hb <;> rw [ha, hb] at h <;> simp [ha, hb] at h ⊢ <;> exact h
  omega
/-- All bits laid on at once, or each when it goes out: both are one. -/
theorem sft_stp (c y : Nat) : sft (c ^^^ y) = stp c (y % 2) ^^^ (y / 2) := by
  unfold sft stp
  rw [xor_odd, xor_half, show (c + y % 2) % 2 = (c + y) % 2 by omega]
  split
  · rw [Nat.xor_assoc, Nat.xor_assoc, Nat.xor_comm (y / 2)]
  · rfl
theorem sfts_stps (n x : Nat) : ∀ k, k ≤ 8 → sfts k (n ^^^ x) = stps ((bits8 x).take k) n ^^^ (x / 2 ^ k)
  | 0, _ => by simp [sfts, stps]
  | k + 1, h => by
    rw [sfts, sfts_stps n x k (by omega), sft_stp, List.take_add_one, show (bits8 x)[k]? = some (x / 2 ^ k % 2) by simp [bits8, show k < 8 by omega], Option.toList_some, stps_append, Nat.div_div_eq_div_mul, Nat.pow_succ]
    rfl
theorem sfts_byte (n : Nat) {x : Nat} (hx : x < 256) : sfts 8 (n ^^^ x) = stps (bits8 x) n := by
  rw [sfts_stps n x 8 (Nat.le_refl _), Nat.div_eq_of_lt hx, Nat.xor_zero, List.take_of_length_le (by simp [bits8])]
theorem sft_lt {n : Nat} (h : n < 4294967296) : sft n < 4294967296 := by
  unfold sft
  split
  · exact Nat.xor_lt_two_pow (n := 32) (by omega) (by decide)
  · omega
theorem sfts_lt {n : Nat} (h : n < 4294967296) : ∀ k, sfts k n < 4294967296
  | 0 => h
  | k + 1 => sft_lt (sfts_lt h k)
/-- The state behind i bytes. -/
def cst (l : List Nat) (i : Nat) : Nat := stps (bitsOf (l.take i)) 4294967295
theorem cst_lt (l : List Nat) (i : Nat) : cst l i < 4294967296 := stps_lt _ (by omega)
theorem cst_next {l : List Nat} (hl : ∀ x ∈ l, x < 256) {i x : Nat} (hi : l[i]? = some x) : sfts 8 (cst l i ^^^ x) = cst l (i + 1) := by
  rw [sfts_byte _ (hl x (List.mem_of_getElem? hi))]
  unfold cst
  rw [List.take_add_one, hi, Option.toList_some, bitsOf, bitsOf, List.flatMap_append, stps_append]
  simp
theorem cst_all (l : List Nat) : 4294967295 - cst l l.length = crc l := by
  unfold cst crc
  rw [List.take_of_length_le (Nat.le_refl _)]
theorem and_u32 (a b : Nat) (ha : a < 4294967296) (hb : b < 4294967296) : bits .and .u32 (a : Int) (b : Int) = ((a &&& b : Nat) : Int) := by
  have hx : a &&& b < 2 ^ 32 := Nat.and_lt_two_pow _ (by omega)
  have h1 : (BitVec.ofInt 32 (a : Int)).toNat = a := by
    rw [BitVec.ofInt_natCast, BitVec.toNat_ofNat]; exact Nat.mod_eq_of_lt (by omega)
  have h2 : (BitVec.ofInt 32 (b : Int)).toNat = b := by
    rw [BitVec.ofInt_natCast, BitVec.toNat_ofNat]; exact Nat.mod_eq_of_lt (by omega)
  show IntKind.u32.wrap ((BitVec.ofInt 32 (a : Int) &&& BitVec.ofInt 32 (b : Int)).toNat : Int) = _
  rw [BitVec.toNat_and, h1, h2]
  show ((a &&& b : Nat) : Int) % 4294967296 = _
  omega
theorem xor_u32 (a b : Nat) (ha : a < 4294967296) (hb : b < 4294967296) : bits .xor .u32 (a : Int) (b : Int) = ((a ^^^ b : Nat) : Int) := by
  have hx : a ^^^ b < 2 ^ 32 := Nat.xor_lt_two_pow (by omega) (by omega)
  have h1 : (BitVec.ofInt 32 (a : Int)).toNat = a := by
    rw [BitVec.ofInt_natCast, BitVec.toNat_ofNat]; exact Nat.mod_eq_of_lt (by omega)
  have h2 : (BitVec.ofInt 32 (b : Int)).toNat = b := by
    rw [BitVec.ofInt_natCast, BitVec.toNat_ofNat]; exact Nat.mod_eq_of_lt (by omega)
  show IntKind.u32.wrap ((BitVec.ofInt 32 (a : Int) ^^^ BitVec.ofInt 32 (b : Int)).toNat : Int) = _
  rw [BitVec.toNat_xor, h1, h2]
  show ((a ^^^ b : Nat) : Int) % 4294967296 = _
  omega
end Cn

set_option maxHeartbeats 4000000 in
theorem check_any (b : Option Addr) (n cap : Nat) (xs : List Nat) (w : World) (Y : By14 w b n cap xs) :
    Calls Try.prog 94 #[.slice b n cap] w fun e w' => e = .returned (.int .u32 ((crc xs : Nat) : Int)) ∧ w' = w := by
  have HL := hide Y.len
  have HX := hide Y.each
  have HS := hide Y.small
  have RX := hide Y.rd
  clear Y
  go_enter Try.func94, Try.ntmps94
  go_wp2_with fail
  go_loop [3, 9] (fun vn vi => ∃ i : Nat, i ≤ n ∧ vi = .int .i64 (i : Int) ∧ vn = .int .u32 (cst xs i : Nat)) (fun _ vi => n - (intOf vi).toNat)
  case atStart => exact ⟨0, Nat.zero_le _, rfl, rfl⟩
  case round =>
    obtain ⟨i, hi, rfl, rfl⟩ := hrel
    by_cases hl : i < n
    · have t1 : decide (i < n) = true := by simpa using hl
      have t1' : decide ((i : Int) < (n : Int)) = true := by simp; omega
      obtain ⟨ab, off, x, rfl, Hx, cx⟩ := RX.out.num (i := i) (by rw [HL.out]; exact hl)
      have xl := HX.out x (List.mem_of_getElem? Hx.out)
      have NX := hide (cst_next HX.out Hx.out)
      obtain ⟨c, hc⟩ : ∃ c, c = cst xs i := ⟨_, rfl⟩
      have cl : c < 4294967296 := by rw [hc]; exact cst_lt _ _
      rw [← hc] at NX ⊢
      have q0 : (0 : Int) ≤ i := by omega
      have q1 : (i : Int) < n := by omega
      have e0 : IntKind.u32.wrap (x : Int) = x := by show (x : Int) % 4294967296 = x; omega
      have e1 := xor_u32 c x cl (by omega)
      obtain ⟨d, hd⟩ : ∃ d, d = c ^^^ x := ⟨_, rfl⟩
      have dl : d < 4294967296 := by rw [hd]; exact Nat.xor_lt_two_pow (n := 32) cl (by omega)
      rw [← hd] at NX e1
      have DL := hide dl
      clear hd hc cl dl xl
      go_wp2_with fail
      go_loop [3, 6, 17] (fun vn vg vk => ∃ k : Nat, k ≤ 8 ∧ vk = .int .i64 (k : Int) ∧ vn = .int .u32 (sfts k d : Nat)) (fun _ _ vk => 8 - (intOf vk).toNat)
      case atStart => exact ⟨0, Nat.zero_le _, rfl, rfl⟩
      case round =>
        obtain ⟨k, hk, rfl, rfl⟩ := hrel
        by_cases hk8 : k = 8
        · subst hk8
          have t2 : decide (((8 : Nat) : Int) < 8) = false := by decide
          rw [NX.out]
          have iw : wrap64 ((i : Int) + 1) = ((i + 1 : Nat) : Int) := by have := HS.out; unfold wrap64; omega
          go_wp2
          rw [iw]
          exact ⟨⟨i + 1, by omega, rfl, rfl⟩, by simp [intOf]; omega⟩
        · have hk' : k < 8 := by omega
          have t2 : decide ((k : Int) < 8) = true := by simp; omega
          have k0 : (0 : Int) ≤ k := by omega
          have k1 : (k : Int) ≤ 8 := by omega
          have SL := sfts_lt DL.out k
          have NS : sfts (k + 1) d = sft (sfts k d) := rfl
          obtain ⟨s, hs⟩ : ∃ s, s = sfts k d := ⟨_, rfl⟩
          rw [← hs] at SL NS ⊢
          have e2 := and_u32 s 1 SL (by omega)
          rw [Nat.and_one_is_mod] at e2
          obtain ⟨h, hh⟩ : ∃ h, h = s / 2 := ⟨_, rfl⟩
          have e3 : (s : Int) / 2 = (h : Int) := by rw [hh]; simp
          have hhl : h < 4294967296 := by omega
          unfold sft at NS
          rw [← hh] at NS
          by_cases ho : s % 2 = 1
          · rw [ho] at e2
            rw [if_pos ho] at NS
            have e4 : bits .and .u32 3988292384 4294967295 = 3988292384 := by decide +kernel
            have e5 := xor_u32 h poly hhl (by decide)
            have HNS := hide NS
            have E : Hid (bits .xor .u32 (h : Int) (bits .and .u32 3988292384 (-bits .and .u32 (s : Int) 1 % 4294967296)) = ((h ^^^ poly : Nat) : Int)) := by
              rw [Hid, show bits .and .u32 (s : Int) 1 = 1 from e2, show (-1 : Int) % 4294967296 = 4294967295 from rfl, e4]
              exact e5
            clear hs hh ho NS hhl e2 e4 e5 SL
            go_wp2
            exact ⟨⟨k + 1, by omega, by simp, by rw [HNS.out, E.out]⟩, by simp [intOf]; omega⟩
          · have h0 : s % 2 = 0 := by omega
            rw [h0] at e2
            rw [if_neg ho] at NS
            have e4 : bits .and .u32 3988292384 0 = 0 := by decide +kernel
            have e5 := xor_u32 h 0 hhl (by decide)
            rw [Nat.xor_zero] at e5
            have HNS := hide NS
            have E : Hid (bits .xor .u32 (h : Int) (bits .and .u32 3988292384 (-bits .and .u32 (s : Int) 1 % 4294967296)) = (h : Int)) := by
              rw [Hid, show bits .and .u32 (s : Int) 1 = 0 from e2, show (-0 : Int) % 4294967296 = 0 from rfl, e4]
              exact e5
            clear hs hh ho NS hhl SL h0 e2 e4 e5
            go_wp2
            exact ⟨⟨k + 1, by omega, by simp, by rw [HNS.out, E.out]⟩, by simp [intOf]; omega⟩
    · obtain rfl : i = n := by omega
      have t1 : decide (i < i) = false := by simp
      have t1' : decide ((i : Int) < (i : Int)) = false := by simp
      have cl := cst_lt xs i
      have E := cst_all xs
      rw [HL.out] at E
      obtain ⟨c, hc⟩ : ∃ c, c = cst xs i := ⟨_, rfl⟩
      rw [← hc] at cl E ⊢
      have NU := hide (not_u32 c cl)
      have CE : Hid (((crc xs : Nat) : Int) = 4294967295 - (c : Int)) := by rw [Hid, ← E]; omega
      clear E hc cl
      go_wp2
      go_ret
      exact ⟨by rw [CE.out, ← NU.out]; rfl, rfl⟩
/-- The lowest k bytes of a number. -/
def leB : Nat → Nat → List Nat
  | 0, _ => []
  | k + 1, n => n % 256 :: leB k (n / 256)
theorem leB_length : ∀ k n, (leB k n).length = k
  | 0, _ => rfl
  | k + 1, n => by rw [leB, List.length_cons, leB_length]
theorem leB_get : ∀ (k n : Nat) {i : Nat}, i < k → (leB k n)[i]? = some (n / 2 ^ (8 * i) % 256)
  | k + 1, n, 0, _ => by simp [leB]
  | k + 1, n, i + 1, h => by
    rw [leB, List.getElem?_cons_succ, leB_get k (n / 256) (by omega), Nat.div_div_eq_div_mul, show 256 * 2 ^ (8 * i) = 2 ^ (8 * (i + 1)) by rw [Nat.mul_add, Nat.pow_add, Nat.mul_comm]]
theorem leB_lt : ∀ k n, ∀ x ∈ leB k n, x < 256
  | 0, _ => by simp [leB]
  | k + 1, n => by
    intro x hx
    rcases List.mem_cons.1 hx with rfl | h
    · omega
    · exact leB_lt k _ x h
theorem leB_four (n : Nat) : leB 4 n = le4 n := by
  simp only [leB, le4, Nat.div_div_eq_div_mul]
theorem leB_eight (n : Nat) : leB 8 n = le8 n := by
  simp only [leB, le8, le4, List.cons_append, List.nil_append, Nat.div_div_eq_div_mul]
  congr 1
  · omega
  congr 1
  · omega
  congr 1
  · omega
  congr 1
  · omega

/-- The bytes so far. -/
def leTo (k n i : Nat) : List Nat := (leB k n).take i ++ List.replicate (k - i) 0
theorem leTo_zero (k n : Nat) : leTo k n 0 = List.replicate k 0 := by simp [leTo]
theorem leTo_all (k n : Nat) : leTo k n k = leB k n := by
  unfold leTo
  rw [List.take_of_length_le (by rw [leB_length]; exact Nat.le_refl _)]
  simp
theorem leTo_length {k : Nat} (n : Nat) {i : Nat} (h : i ≤ k) : (leTo k n i).length = k := by
  unfold leTo
  rw [List.length_append, List.length_take, leB_length, List.length_replicate]
  omega
theorem leTo_next {k : Nat} (n : Nat) {i : Nat} (h : i < k) : (leTo k n i).set i (n / 2 ^ (8 * i) % 256) = leTo k n (i + 1) := by
  unfold leTo
  have h1 : ((leB k n).take i).length = i := by rw [List.length_take, leB_length]; omega
  rw [List.set_append_right _ _ (by omega), h1, Nat.sub_self, show k - i = (k - (i + 1)) + 1 by omega, List.replicate_succ, List.set_cons_zero, List.take_add_one, leB_get k n h]
  simp

set_option maxHeartbeats 4000000 in
theorem lowest_any (n k : Nat) (hk : k ≤ 8) (w : World) :
    Calls Try.prog 88 #[.int .u64 (n : Int), .int .i64 (k : Int)] w fun e w' => ∃ g, e = .returned (.slice (some ⟨g, 0, none⟩) k k) ∧ w.heap.size ≤ g ∧ Row w' g 5 (nums .u8 (leB k n)) ∧ Old w w' := by
  have M0 := fun w' : World => make_nums (P := Try.prog) (t := 32) (e := 5) (k := .u8) (B := 1) Try.underlying32 (by kernel_rfl) k (by omega) (by omega) w'
  have B0 : Hid (Bxs w [(w.heap.size, 5, nums .u8 (leTo k n 0))] (w.alloc (.cells (nums .u8 (List.replicate k 0)).toArray 5))) := by
    rw [leTo_zero]
    exact (Bxs.nil w).alloc 5 (nums .u8 (List.replicate k 0)) rfl
  generalize List.replicate k 0 = zs at M0 B0
  go_enter Try.func88, Try.ntmps88
  go_wp2_with fail
  go_loopw [11] (fun vi wr => ∃ i : Nat, i ≤ k ∧ vi = .int .i64 (i : Int) ∧ Hid (Bxs w [(w.heap.size, 5, nums .u8 (leTo k n i))] wr)) (fun vi _ => k - (intOf vi).toNat)
  case atStart => exact ⟨0, Nat.zero_le _, rfl, B0⟩
  case round =>
    clear B0 M0
    obtain ⟨i, hi, rfl, B⟩ := hrel
    by_cases hl : i < k
    · have t1 : decide (i < k) = true := by simpa using hl
      have t1' : decide ((i : Int) < (k : Int)) = true := by simp; omega
      have q0 : (0 : Int) ≤ i := by omega
      have q1 : (i : Int) < k := by omega
      have B2 := B.out.setc 0 rfl i (.int .u8 ((n / 2 ^ (8 * i) % 256 : Nat) : Int))
      rw [nums_set, leTo_next n hl] at B2
      have B2 := hide B2
      have fr := (B.out.row 0 rfl).free i
      obtain ⟨_, _, cz⟩ := (B.out.row 0 rfl).num (i := i) (by rw [leTo_length n hi]; exact hl)
      have ez : Hid ((n : Int) / 2 ^ (8 * i) % 256 = ((n / 2 ^ (8 * i) % 256 : Nat) : Int)) := by
        rw [Hid, show (n : Int) / 2 ^ (8 * i) = ((n / 2 ^ (8 * i) : Nat) : Int) by simp]
        omega
      go_wp2
      go_roundw
      case rel => exact ⟨i + 1, by omega, by go_num, by rw [ez.out]; exact B2⟩
      case measure => simp [intOf]; omega
    · obtain rfl : i = k := by omega
      have t1 : decide (i < i) = false := by simp
      have t1' : decide ((i : Int) < (i : Int)) = false := by simp
      have R := B.out
      rw [leTo_all] at R
      go_wp2
      go_ret
      exact ⟨_, rfl, Nat.le_refl _, R.row 0 rfl, R.old⟩

theorem numL_snoc : ∀ (xs : List Nat) (b : Nat), numL (xs ++ [b]) = numL xs + b * 2 ^ (8 * xs.length)
  | [], b => by simp [numL]
  | x :: xs, b => by
    rw [List.cons_append, numL, numL_snoc xs b, numL, List.length_cons, show 8 * (xs.length + 1) = 8 * xs.length + 8 by omega, Nat.pow_add, Nat.mul_add, Nat.add_assoc]
    congr 2
    rw [Nat.mul_left_comm, Nat.mul_comm 256]

set_option maxHeartbeats 4000000 in
theorem number_any (b : Option Addr) (n cap : Nat) (xs : List Nat) (hx : ∀ x ∈ xs, x < 256) (hn : xs.length = n) (hl : n ≤ 8) (w : World) (rd : Rd w b (nums .u8 xs)) :
    Calls Try.prog 96 #[.slice b n cap] w fun e w' => e = .returned (.int .u64 (numL xs : Nat)) ∧ w' = w := by
  have HL := hide hn
  have HX := hide hx
  have HS := hide hl
  have RX := hide rd
  clear hn hx hl rd
  go_enter Try.func96, Try.ntmps96
  go_wp2_with fail
  go_loop [3, 8] (fun vn vi => ∃ i : Nat, i ≤ n ∧ vi = .int .i64 (i : Int) ∧ vn = .int .u64 (numL (xs.take i) : Nat)) (fun _ vi => n - (intOf vi).toNat)
  case atStart => exact ⟨0, Nat.zero_le _, rfl, by simp [numL]⟩
  case round =>
    obtain ⟨i, hi, rfl, rfl⟩ := hrel
    by_cases hl : i < n
    · have t1 : decide (i < n) = true := by simpa using hl
      have t1' : decide ((i : Int) < (n : Int)) = true := by simp; omega
      obtain ⟨ab, off, x, rfl, Hx, cx⟩ := RX.out.num (i := i) (by rw [HL.out]; exact hl)
      have xl := HX.out x (List.mem_of_getElem? Hx.out)
      have i8 : i < 8 := by have := HS.out; omega
      have NX : numL (xs.take (i + 1)) = numL (xs.take i) + x * 2 ^ (8 * i) := by
        rw [List.take_add_one, Hx.out, Option.toList_some, numL_snoc, List.length_take, HL.out, Nat.min_eq_left (by omega)]
      have ml : numL (xs.take i) < 2 ^ (8 * i) := by
        have := numL_lt (l := xs.take i) fun y hy => HX.out y (List.mem_of_mem_take hy)
        rwa [List.length_take, HL.out, Nat.min_eq_left (by omega), show (256 : Nat) = 2 ^ 8 from rfl, ← Nat.pow_mul] at this
      obtain ⟨m, hm⟩ : ∃ m, m = numL (xs.take i) := ⟨_, rfl⟩
      rw [← hm] at NX ml ⊢
      obtain ⟨z, hz⟩ : ∃ z, z = x * 2 ^ (8 * i) := ⟨_, rfl⟩
      have q0 : (0 : Int) ≤ i := by omega
      have q1 : (i : Int) < n := by omega
      have q8 : (i : Int) < 8 := by omega
      have hp : (2 : Nat) ^ (8 * i) ≤ 2 ^ 56 := Nat.pow_le_pow_right (by omega) (by omega)
      have zl : z < 18446744073709551616 := by
        rw [hz]
        exact Nat.lt_of_le_of_lt (Nat.mul_le_mul (show x ≤ 255 by omega) hp) (by decide)
      have e0 : IntKind.u64.wrap (x : Int) = x := by show (x : Int) % 18446744073709551616 = x; omega
      have e1 : Hid (IntKind.u64.wrap ((x : Int) * 2 ^ (8 * i)) = (z : Int)) := by
        rw [Hid, show (x : Int) * 2 ^ (8 * i) = ((z : Nat) : Int) by rw [hz]; simp]
        show (z : Int) % 18446744073709551616 = z
        omega
      have e2 : Hid (bits .or .u64 (m : Int) (z : Int) = ((m + z : Nat) : Int)) := by
        rw [Hid, bits_or_u64_nat m z (Nat.lt_of_lt_of_le ml (Nat.le_trans hp (by decide))) zl]
        have := Nat.shiftLeft_add_eq_or_of_lt ml x
        rw [Nat.shiftLeft_eq, ← hz, Nat.or_comm] at this
        rw [← this, Nat.add_comm]
      rw [← hz] at NX
      have HNX := hide NX
      have iw : wrap64 ((i : Int) + 1) = ((i + 1 : Nat) : Int) := by unfold wrap64; omega
      clear hm hz hp zl ml NX xl i8
      go_wp2
      try rw [iw]
      exact ⟨⟨i + 1, by omega, by simp, by rw [HNX.out, ← e2.out, ← e1.out]⟩, by simp [intOf]; omega⟩
    · obtain rfl : i = n := by omega
      have t1 : decide (i < i) = false := by simp
      have t1' : decide ((i : Int) < (i : Int)) = false := by simp
      rw [List.take_of_length_le (by rw [HL.out]; exact Nat.le_refl _)]
      go_wp2
      go_ret
      exact ⟨rfl, rfl⟩

theorem checkBytes_any (b : Option Addr) (n cap : Nat) (xs : List Nat) (w : World) (Y : By14 w b n cap xs) :
    Calls Try.prog 66 #[.slice b n cap] w fun e w' => ∃ g, e = .returned (.slice (some ⟨g, 0, none⟩) 4 4) ∧ w.heap.size ≤ g ∧ Row w' g 5 (nums .u8 (le4 (crc xs))) ∧ Old w w' := by
  have C1 := hide (check_any b n cap xs w Y)
  have cl := crc_lt xs
  have C2 := hide (lowest_any (crc xs) 4 (by omega) w)
  rw [leB_four] at C2
  have C2' : Hid (Calls Try.prog 88 #[.int .u64 ((crc xs : Nat) : Int), .int .i64 4] w fun e w' => ∃ g, e = .returned (.slice (some ⟨g, 0, none⟩) 4 4) ∧ w.heap.size ≤ g ∧ Row w' g 5 (nums .u8 (le4 (crc xs))) ∧ Old w w') := C2
  have e0 : IntKind.u64.wrap ((crc xs : Nat) : Int) = ((crc xs : Nat) : Int) := by show ((crc xs : Nat) : Int) % 18446744073709551616 = _; omega
  clear Y C2 cl
  generalize crc xs = c at *
  go_enter Try.func66, Try.ntmps66
  go_wp2_with fail
  refine C1.out.mono ?_
  rintro e w1 ⟨rfl, rfl⟩
  go_wp2_with fail
  refine C2'.out.mono ?_
  rintro e w2 ⟨g, rfl, lg, R, o⟩
  go_wp2
  go_ret
  exact ⟨g, rfl, lg, R, o⟩

theorem rd_num8 {w : World} {a : Option Addr} {xs : List Nat} (h : Rd w a (nums .u8 xs)) {i : Nat} (hi : i < xs.length) : ∃ b off, a = some ⟨b, off, none⟩ ∧ w.cell? ⟨b, off + i, none⟩ = some (.int .u8 ((xs.getD i 0 : Nat) : Int)) := by
  obtain ⟨b, off, ha, hc⟩ := h i (.int .u8 (xs[i] : Int)) (by simp [nums, hi])
  exact ⟨b, off, ha, by rw [hc]; simp [List.getD, hi]⟩
theorem take_step8 {xs ys : List Nat} {k : Nat} (h : xs.take k = ys.take k) (hx : k < xs.length) (hy : k < ys.length) (e : xs.getD k 0 = ys.getD k 0) : xs.take (k + 1) = ys.take (k + 1) := by
  rw [List.take_add_one, List.take_add_one, h, List.getElem?_eq_getElem hx, List.getElem?_eq_getElem hy]
  simp [List.getD, hx, hy] at e
  rw [e]

set_option maxHeartbeats 2000000 in
theorem equal8_any {a b : Option Addr} {n m : Nat} {xs ys : List Nat} (ca cb : Nat) (w : World) (hn : n ≤ 9223372036854775807) (lx : xs.length = n) (ly : ys.length = m) (rx : Rd w a (nums .u8 xs)) (ry : Rd w b (nums .u8 ys)) :
    Calls Try.prog 95 #[.slice a n ca, .slice b m cb] w fun e w' => e = .returned (.bool (decide (xs = ys))) ∧ Old w w' := by
  have LX := hide lx
  have LY := hide ly
  have HN := hide hn
  have RX := hide rx
  have RY := hide ry
  clear rx ry lx ly hn
  by_cases hnm : n = m
  · subst hnm
    have t0 : ((n : Int) != n) = false := by simp
    have t0' : (n != n) = false := by simp
    go_enter Try.func95, Try.ntmps95
    go_wp2_with fail
    clear t0 t0'
    go_loopw [13] (fun vi wr => ∃ k : Nat, k ≤ n ∧ vi = .int .i64 (k : Int) ∧ Hid (xs.take k = ys.take k) ∧ Hid (Old w wr)) (fun vi _ => n - (intOf vi).toNat)
    case atStart => exact ⟨0, Nat.zero_le _, rfl, rfl, Old.refl _⟩
    case round =>
      obtain ⟨k, hk, rfl, HT, R⟩ := hrel
      by_cases hl : k < n
      · have t3 : decide (k < n) = true := by simpa using hl
        have t3' : decide ((k : Int) < (n : Int)) = true := by simp; omega
        obtain ⟨b1, o1, rfl, cx⟩ := rd_num8 (RX.out.mono R.out) (i := k) (by rw [LX.out]; exact hl)
        obtain ⟨b2, o2, rfl, cy⟩ := rd_num8 (RY.out.mono R.out) (i := k) (by rw [LY.out]; exact hl)
        have NX := hide (fun e => take_step8 HT.out (by rw [LX.out]; exact hl) (by rw [LY.out]; exact hl) e)
        have ND : Hid (xs.getD k 0 ≠ ys.getD k 0 → decide (xs = ys) = false) := fun h => decide_eq_false fun e => h (by rw [e])
        have q0 : (0 : Int) ≤ k := by omega
        have q1 : (k : Int) < n := by omega
        generalize xs.getD k 0 = x at cx NX ND
        generalize ys.getD k 0 = y at cy NX ND
        by_cases hxy : x = y
        · subst hxy
          have t4 : ((x : Int) != x) = false := by simp
          have NY : Hid (xs.take (k + 1) = ys.take (k + 1)) := NX.out rfl
          have iw : wrap64 ((k : Int) + 1) = ((k + 1 : Nat) : Int) := by have := HN.out; unfold wrap64; omega
          clear NX ND
          go_wp2_with fail
          go_quiet (fail)
          go_wp2
          try rw [iw]
          exact ⟨⟨k + 1, by omega, rfl, NY, R.out.drewN _⟩, by simp [intOf]; omega⟩
        · have t4 : ((x : Int) != y) = true := by simp; omega
          have t4' : (x != y) = true := by simpa using hxy
          have E := hide (ND.out hxy)
          clear NX ND
          go_wp2_with fail
          go_quiet (fail)
          go_wp2
          go_ret
          exact ⟨by rw [E.out]; rfl, R.out.drewN _⟩
      · obtain rfl : k = n := by omega
        have t3 : decide (k < k) = false := by simp
        have t3' : decide ((k : Int) < (k : Int)) = false := by simp
        have EX : Hid (decide (xs = ys) = true) := decide_eq_true (by
          have := HT.out
          rw [List.take_of_length_le (by rw [LX.out]; exact Nat.le_refl _), List.take_of_length_le (by rw [LY.out]; exact Nat.le_refl _)] at this
          exact this)
        go_wp2
        go_ret
        exact ⟨by rw [EX.out]; rfl, R.out⟩
  · have t0 : (n != m) = true := by simpa using hnm
    have t0' : ((n : Int) != (m : Int)) = true := by simp; omega
    have E : Hid (decide (xs = ys) = false) := decide_eq_false fun e => hnm (by rw [← LX.out, ← LY.out, e])
    rw [E.out]
    go_enter Try.func95, Try.ntmps95
    go_wp2
    go_ret
    exact ⟨rfl, Old.refl _⟩
end Go.Proofs.Ytepchjpdfmleoaa
