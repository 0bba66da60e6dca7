/-
  A word in memory: where its lists lie.
-/
import Derived.Test.YtepchjpdfmleoaaRefRise
import Derived.Test.YtepchjpdfmleoaaBxs
namespace Go.Proofs.Ytepchjpdfmleoaa
open Go.RowKit Cn Pn Wn
set_option linter.unusedVariables false

/-- Where a word's lists lie, and with how much room. -/
structure WM where
  a1 : Option Addr
  c1 : Nat
  a2 : Option Addr
  c2 : Nat
  a3 : Option Addr
  c3 : Nat
  a4 : Option Addr
  c4 : Nat
  a5 : Option Addr
  c5 : Nat
  pa : Nat → Option Addr
  pc : Nat → Nat
  oa : Nat → Option Addr
  oc : Nat → Nat
def wdc (c : Wd) (m : WM) : List Value := [.int .i64 c.kind, .int .i64 c.frm, .int .i64 c.why, .slice m.a1 c.cards.length m.c1, .slice m.a2 c.parcels.length m.c2, .slice m.a3 c.vector.length m.c3, .slice m.a4 c.who.length m.c4, .slice m.a5 c.openings.length m.c5]
theorem infoWd {a b c d e f g h : Value} : (Try.prog.info? 29).map (·.size) = some [a, b, c, d, e, f, g, h].length := by kernel_rfl
structure WordIn (w : World) (c : Wd) (m : WM) : Prop where
  nums_ : B64 c.kind ∧ B64 c.frm ∧ B64 c.why
  lens : c.cards.length ≤ 9223372036854775807 ∧ c.parcels.length ≤ 9223372036854775807 ∧ c.vector.length ≤ 9223372036854775807 ∧ c.who.length ≤ 9223372036854775807 ∧ c.openings.length ≤ 9223372036854775807
  caps : c.cards.length ≤ m.c1 ∧ c.parcels.length ≤ m.c2 ∧ c.vector.length ≤ m.c3 ∧ c.who.length ≤ m.c4 ∧ c.openings.length ≤ m.c5
  cards : ∀ (i : Nat) (x : Card), c.cards[i]? = some x → ∃ b off, m.a1 = some ⟨b, off, none⟩ ∧ w.cell? ⟨b, off + i * 3, none⟩ = some (.int .i64 x.who) ∧ w.cell? ⟨b, off + i * 3 + 1, none⟩ = some (.int .u64 (x.lock : Nat)) ∧ w.cell? ⟨b, off + i * 3 + 2, none⟩ = some (.int .u64 (x.key : Nat))
  cardB : ∀ x ∈ c.cards, B64 x.who ∧ x.lock < 18446744073709551616 ∧ x.key < 18446744073709551616
  parcels : ∀ (i : Nat) (x : Parcel), c.parcels[i]? = some x → (∃ b off, m.a2 = some ⟨b, off, none⟩ ∧ w.cell? ⟨b, off + i * 3, none⟩ = some (.int .i64 x.frm) ∧ w.cell? ⟨b, off + i * 3 + 1, none⟩ = some (.int .i64 x.to) ∧ w.cell? ⟨b, off + i * 3 + 2, none⟩ = some (.slice (m.pa i) x.data.length (m.pc i))) ∧ Rd w (m.pa i) (nums .u8 x.data)
  parcelB : ∀ x ∈ c.parcels, B64 x.frm ∧ B64 x.to ∧ (∀ y ∈ x.data, y < 256) ∧ x.data.length ≤ 9223372036854775807
  vector : Rd w m.a3 (nums .u32 c.vector)
  vectorB : ∀ x ∈ c.vector, x < 4294967296
  who : Rd w m.a4 (ints c.who)
  whoB : ∀ x ∈ c.who, B64 x
  openings : ∀ (i : Nat) (x : Opening), c.openings[i]? = some x → (∃ b off, m.a5 = some ⟨b, off, none⟩ ∧ w.cell? ⟨b, off + i * 3, none⟩ = some (.int .i64 x.who) ∧ w.cell? ⟨b, off + i * 3 + 1, none⟩ = some (.bool x.own) ∧ w.cell? ⟨b, off + i * 3 + 2, none⟩ = some (.slice (m.oa i) x.vals.length (m.oc i))) ∧ Rd w (m.oa i) (nums .u64 x.vals)
  openingB : ∀ x ∈ c.openings, B64 x.who ∧ (∀ y ∈ x.vals, y < 18446744073709551616) ∧ x.vals.length ≤ 9223372036854775807
theorem Old.cell {w w' : World} (o : Old w w') {a : Addr} {v : Value} (h : w.cell? a = some v) : w'.cell? a = some v := (Below.cell o (World.block_lt_of_cell? w _ h)).trans h
theorem WordIn.mono {w w' : World} {c : Wd} {m : WM} (h : WordIn w c m) (o : Old w w') : WordIn w' c m where
  nums_ := h.nums_
  lens := h.lens
  caps := h.caps
  cards := fun i x hx => by
    obtain ⟨b, off, e, h1, h2, h3⟩ := h.cards i x hx
    exact ⟨b, off, e, o.cell h1, o.cell h2, o.cell h3⟩
  cardB := h.cardB
  parcels := fun i x hx => by
    obtain ⟨⟨b, off, e, h1, h2, h3⟩, h4⟩ := h.parcels i x hx
    exact ⟨⟨b, off, e, o.cell h1, o.cell h2, o.cell h3⟩, h4.mono o⟩
  parcelB := h.parcelB
  vector := h.vector.mono o
  vectorB := h.vectorB
  who := h.who.mono o
  whoB := h.whoB
  openings := fun i x hx => by
    obtain ⟨⟨b, off, e, h1, h2, h3⟩, h4⟩ := h.openings i x hx
    exact ⟨⟨b, off, e, o.cell h1, o.cell h2, o.cell h3⟩, h4.mono o⟩
  openingB := h.openingB
end Go.Proofs.Ytepchjpdfmleoaa
