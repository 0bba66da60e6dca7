/-
  MgFields: 3 parts, one behind the other; what each proves, and under which conditions, its own heading says.
-/
import Derived.Test.YtepchjpdfmleoaaRefCheck
import Derived.Test.YtepchjpdfmleoaaCalm

/-
  The document's own fields as texts (offertoryref14): Small, Great, Sealed, number: what they answer; sums of texts.
-/
namespace Go.Proofs.Ytepchjpdfmleoaa
open Go.RowKit Cn
set_option linter.unusedVariables false

namespace Cn
theorem w64 {x : Nat} (h : x ≤ 9223372036854775807) : wrap64 (x : Int) = x := by unfold wrap64; omega
theorem wu8 {x : Nat} (h : x < 256) : IntKind.u8.wrap (x : Int) = x := by show (x : Int) % 256 = x; omega
theorem wi64 {x : Nat} (h : x ≤ 9223372036854775807) : IntKind.i64.wrap (x : Int) = x := by rw [IntKind.wrap_i64]; omega
/-- A number of four bytes, the lowest first. -/
def le4 (n : Nat) : List Nat := [n % 256, n / 256 % 256, n / 65536 % 256, n / 16777216 % 256]
def le8 (n : Nat) : List Nat := le4 (n % 4294967296) ++ le4 (n / 4294967296)
theorem le4_lt (n : Nat) : ∀ x ∈ le4 n, x < 256 := by
  intro x hx
  simp [le4] at hx
  rcases hx with rfl | rfl | rfl | rfl <;> omega
theorem le8_lt (n : Nat) : ∀ x ∈ le8 n, x < 256 := by
  intro x hx
  rcases List.mem_append.1 hx with h | h <;> exact le4_lt _ _ h
/-- Bytes with how many they are. -/
def fieldB (l : List Nat) : List Nat := le4 l.length ++ l
/-- Fields with their check. -/
def sealed (l : List Nat) : List Nat := l ++ le4 (crc l)
theorem crc_lt (l : List Nat) : crc l < 4294967296 := by unfold crc; omega
/-- Bytes as a number, the lowest first. -/
def numL : List Nat → Nat
  | [] => 0
  | x :: r => x + 256 * numL r
theorem numL_lt : ∀ {l : List Nat}, (∀ x ∈ l, x < 256) → numL l < 256 ^ l.length
  | [], _ => by simp [numL]
  | x :: r, h => by
    have h1 := numL_lt (l := r) fun y hy => h y (List.mem_cons_of_mem _ hy)
    have h2 := h x (List.mem_cons_self ..)
    rw [numL, List.length_cons, Nat.pow_succ]
    omega
theorem numL_drop (l : List Nat) {i : Nat} (h : i < l.length) : numL (l.drop i) = l.getD i 0 + 256 * numL (l.drop (i + 1)) := by
  rw [List.drop_eq_getElem_cons h, numL]
  simp [List.getD, h]
end Cn

set_option maxHeartbeats 2000000 in
theorem refSmall14_any (n : Nat) (hn : n ≤ 9223372036854775807) (w : World) :
    Calls Try.prog 29 #[.int .i64 (n : Int)] w fun e w' => e = .returned (.string (Ssb.bstr (le4 n))) ∧ Old w w' := by
  obtain ⟨a0, h0⟩ : ∃ a0, a0 = n % 256 := ⟨_, rfl⟩
  obtain ⟨n1, g1⟩ : ∃ n1, n1 = n / 256 := ⟨_, rfl⟩
  obtain ⟨n2, g2⟩ : ∃ n2, n2 = n / 65536 := ⟨_, rfl⟩
  obtain ⟨n3, g3⟩ : ∃ n3, n3 = n / 16777216 := ⟨_, rfl⟩
  obtain ⟨a1, h1⟩ : ∃ a1, a1 = n1 % 256 := ⟨_, rfl⟩
  obtain ⟨a2, h2⟩ : ∃ a2, a2 = n2 % 256 := ⟨_, rfl⟩
  obtain ⟨a3, h3⟩ : ∃ a3, a3 = n3 % 256 := ⟨_, rfl⟩
  have v1 : wrap64 (n1 : Int) = n1 := w64 (by rw [g1]; exact Nat.le_trans (Nat.div_le_self _ _) hn)
  have v2 : wrap64 (n2 : Int) = n2 := w64 (by rw [g2]; exact Nat.le_trans (Nat.div_le_self _ _) hn)
  have v3 : wrap64 (n3 : Int) = n3 := w64 (by rw [g3]; exact Nat.le_trans (Nat.div_le_self _ _) hn)
  have nb : (n : Int) ≤ 9223372036854775807 := Int.ofNat_le.2 hn
  have n0 : (0 : Int) ≤ n := Int.natCast_nonneg n
  have w0 : IntKind.u8.wrap (a0 : Int) = a0 := wu8 (by rw [h0]; exact Nat.mod_lt _ (by omega))
  have w1 : IntKind.u8.wrap (a1 : Int) = a1 := wu8 (by rw [h1]; exact Nat.mod_lt _ (by omega))
  have w2 : IntKind.u8.wrap (a2 : Int) = a2 := wu8 (by rw [h2]; exact Nat.mod_lt _ (by omega))
  have w3 : IntKind.u8.wrap (a3 : Int) = a3 := wu8 (by rw [h3]; exact Nat.mod_lt _ (by omega))
  have E : Hid (le4 n = [a0, a1, a2, a3]) := by rw [h0, h1, h2, h3, g1, g2, g3]; rfl
  have td : ∀ (x d : Nat), Int.tdiv (x : Int) (d : Int) = ((x / d : Nat) : Int) := fun x d => by rw [Int.tdiv_eq_ediv_of_nonneg (Int.natCast_nonneg x)]; simp
  have tm : ∀ (x d : Nat), Int.tmod (x : Int) (d : Int) = ((x % d : Nat) : Int) := fun x d => by rw [Int.tmod_eq_emod_of_nonneg (Int.natCast_nonneg x)]; simp
  have d1 : Int.tdiv (n : Int) 256 = (n1 : Int) := by rw [g1]; exact td n 256
  have d2 : Int.tdiv (n : Int) 65536 = (n2 : Int) := by rw [g2]; exact td n 65536
  have d3 : Int.tdiv (n : Int) 16777216 = (n3 : Int) := by rw [g3]; exact td n 16777216
  have m0 : Int.tmod (n : Int) 256 = (a0 : Int) := by rw [h0]; exact tm n 256
  have m1 : Int.tmod (n1 : Int) 256 = (a1 : Int) := by rw [h1]; exact tm n1 256
  have m2 : Int.tmod (n2 : Int) 256 = (a2 : Int) := by rw [h2]; exact tm n2 256
  have m3 : Int.tmod (n3 : Int) 256 = (a3 : Int) := by rw [h3]; exact tm n3 256
  have CV : (convert 32 9 (.slice (some ⟨w.heap.size, 0, none⟩) 4 4)).run Try.prog (w.alloc (.cells #[.int .u8 (a0 : Nat), .int .u8 (a1 : Nat), .int .u8 (a2 : Nat), .int .u8 (a3 : Nat)] 5)) = .ok (.string (Ssb.bstr [a0, a1, a2, a3])) (w.alloc (.cells #[.int .u8 (a0 : Nat), .int .u8 (a1 : Nat), .int .u8 (a2 : Nat), .int .u8 (a3 : Nat)] 5)) :=
    Ssb.run_bstr Try.underlying32 Try.underlying5 Try.underlying9 rfl (Row.new w 5 (nums .u8 [a0, a1, a2, a3])).rd
  clear h0 h1 h2 h3 g1 g2 g3 td tm hn
  go_enter Try.func29, Try.ntmps29
  go_wp2
  go_ret
  exact ⟨by rw [E.out]; rfl, Old.of_alloc _ _⟩

theorem add_texts (a b : List Nat) (h : a.length + b.length ≤ 9223372036854775807) (w : World) : (Op.stringOp .add (Ssb.bstr a) (Ssb.bstr b)).run Try.prog w = .ok (.string (Ssb.bstr (a ++ b))) w := by
  rw [run_string_add_sum w _ _ (by rw [bs_size, bs_size]; omega), bs_append]

set_option maxHeartbeats 2000000 in
theorem refGreat14_any (n : Nat) (hn : n < 18446744073709551616) (w : World) :
    Calls Try.prog 31 #[.int .u64 (n : Int)] w fun e w' => e = .returned (.string (Ssb.bstr (le8 n))) ∧ Old w w' := by
  obtain ⟨a, ha⟩ : ∃ a, a = n % 4294967296 := ⟨_, rfl⟩
  obtain ⟨b, hb⟩ : ∃ b, b = n / 4294967296 := ⟨_, rfl⟩
  have E : Hid (le8 n = le4 a ++ le4 b) := by unfold le8; rw [Hid, ha, hb]
  have al : a ≤ 9223372036854775807 := by rw [ha]; have := Nat.mod_lt n (show 4294967296 > 0 by omega); omega
  have bl : b ≤ 9223372036854775807 := by rw [hb]; have := Nat.div_lt_of_lt_mul (k := 4294967296) (n := 4294967296) hn; omega
  have w0 : IntKind.i64.wrap (a : Int) = a := wi64 al
  have w1 : IntKind.i64.wrap (b : Int) = b := wi64 bl
  have y1 : IntKind.u64.wrap (b : Int) = b := by show (b : Int) % 18446744073709551616 = b; omega
  have y2 : wrap64 (b : Int) = b := w64 bl
  have y3 : wrap64 (a : Int) = a := w64 al
  have C1 := hide (refSmall14_any a al)
  have C2 := hide (refSmall14_any b bl)
  have n0 : (0 : Int) ≤ n := Int.natCast_nonneg n
  have m0 : Int.tmod (n : Int) 4294967296 = (a : Int) := by rw [Int.tmod_eq_emod_of_nonneg n0, ha]; simp
  have m1 : (n : Int) % 4294967296 = (a : Int) := by rw [ha]; simp
  have d1 : (n : Int) / 4294967296 = (b : Int) := by rw [hb]; simp
  have d0 : Int.tdiv (n : Int) 4294967296 = (b : Int) := by rw [Int.tdiv_eq_ediv_of_nonneg n0, hb]; simp
  have z1 : (Ssb.bstr (le4 a)).size = 4 := by rw [bs_size]; rfl
  have z2 : (Ssb.bstr (le4 b)).size = 4 := by rw [bs_size]; rfl
  clear ha hb hn al bl
  generalize le4 a = la at C1 z1 E
  generalize le4 b = lb at C2 z2 E
  go_enter Try.func31, Try.ntmps31
  go_wp2_with fail
  refine (C1.out _).mono ?_
  rintro e w1 ⟨rfl, o1⟩
  go_wp2_with fail
  refine (C2.out _).mono ?_
  rintro e w2 ⟨rfl, o2⟩
  go_wp2
  go_ret
  exact ⟨by rw [E.out, ← bs_append]; rfl, o1.trans o2⟩

set_option maxHeartbeats 2000000 in
theorem refSealed14_any (xs : List Nat) (hx : ∀ x ∈ xs, x < 256) (hl : xs.length ≤ 1000000) (w : World) :
    Calls Try.prog 14 #[.string (Ssb.bstr xs)] w fun e w' => e = .returned (.string (Ssb.bstr (sealed xs))) ∧ Old w w' := by
  have C1 := hide (refCheck14_any xs hx (by omega))
  have cl := crc_lt xs
  obtain ⟨c, hc⟩ : ∃ c, c = crc xs := ⟨_, rfl⟩
  rw [← hc] at C1 cl
  have y1 : wrap64 (c : Int) = c := w64 (by omega)
  have y2 : IntKind.i64.wrap (c : Int) = c := wi64 (by omega)
  have C2 := hide (refSmall14_any c (by omega))
  have z1 : (Ssb.bstr xs).size ≤ 1000000 := by rw [bs_size]; exact hl
  have z2 : (Ssb.bstr (le4 c)).size = 4 := by rw [bs_size]; rfl
  have E : Hid (Ssb.bstr (sealed xs) = Ssb.bstr xs ++ Ssb.bstr (le4 c)) := by unfold sealed; rw [Hid, bs_append, hc]
  generalize le4 c = la at C2 z2 E
  clear cl hc hx hl
  go_enter Try.func14, Try.ntmps14
  go_wp2_with fail
  refine (C1.out _).mono ?_
  rintro e w1 ⟨rfl, rfl⟩
  go_wp2_with fail
  refine (C2.out _).mono ?_
  rintro e w2 ⟨rfl, o2⟩
  go_wp2
  go_ret
  exact ⟨by rw [E.out]; rfl, o2⟩

end Go.Proofs.Ytepchjpdfmleoaa

/-
  The document's own Bytes as a field, and what is taken of fields (offertoryref14).
-/
namespace Go.Proofs.Ytepchjpdfmleoaa
open Go.RowKit Cn
set_option linter.unusedVariables false

set_option maxHeartbeats 2000000 in
theorem refBytes14_any (xs : List Nat) (b : Option Addr) (n cap : Nat) (hx : ∀ x ∈ xs, x < 256) (hn : xs.length = n) (hl : n ≤ 1000000) (w : World) (rd : Rd w b (nums .u8 xs)) :
    Calls Try.prog 32 #[.slice b n cap] w fun e w' => e = .returned (.string (Ssb.bstr (fieldB xs))) ∧ Old w w' := by
  have E : Hid (Ssb.bstr (fieldB xs) = Ssb.bstr (le4 n) ++ Ssb.bstr xs) := by unfold fieldB; rw [Hid, bs_append, hn]
  have z1 : (Ssb.bstr xs).size ≤ 1000000 := by rw [bs_size]; omega
  have z2 : (Ssb.bstr (le4 n)).size = 4 := by rw [bs_size]; rfl
  have C1 := hide (fun y : After w => refSmall14_any n (by omega) y.to)
  have CV : ∀ y : After w, (convert 32 9 (.slice b n cap)).run Try.prog y.to = .ok (.string (Ssb.bstr xs)) y.to := fun y => Ssb.run_bstr Try.underlying32 Try.underlying5 Try.underlying9 hn (rd.mono y.old)
  have ne : Nonempty (After w) := ⟨⟨_, Old.refl _⟩⟩
  generalize le4 n = la at C1 z2 E
  clear hx rd hn hl
  go_enter Try.func32, Try.ntmps32
  go_wp2_with fail
  refine wp_region_calm (by kernel_rfl) (by kernel_rfl) ?_
  repeat (go_big_quiet_step (first | with_reducible exact calm_of (C1.out _)))
  refine wpQuiet_nil ?_
  rintro _ ⟨⟨w3, o3⟩, rfl⟩
  go_wp2
  go_ret
  exact ⟨by rw [E.out]; rfl, o3⟩
end Go.Proofs.Ytepchjpdfmleoaa

/-
  Words as values: what they hold, which are good, their fields.
-/
namespace Go.Proofs.Ytepchjpdfmleoaa
open Go.RowKit Cn
set_option linter.unusedVariables false
namespace Wn

/-- Is a number a donor's? -/
def whoB (n : Int) : Bool := decide (1 ≤ n) && decide (n ≤ 64)
/-- Donors, one behind the other, as far as place i. -/
def donTo (l : List Int) (i : Nat) : Bool := (List.range i).all fun j => whoB (l.getD j 0) && (decide (j = 0) || decide (l.getD (j - 1) 0 < l.getD j 0))
def donB (l : List Int) : Bool := donTo l l.length
theorem donTo_zero (l : List Int) : donTo l 0 = true := rfl
theorem donTo_next (l : List Int) (i : Nat) : donTo l (i + 1) = (donTo l i && (whoB (l.getD i 0) && (decide (i = 0) || decide (l.getD (i - 1) 0 < l.getD i 0)))) := by
  unfold donTo
  rw [List.range_succ, List.all_append]
  simp
theorem donTo_bad {l : List Int} {i : Nat} (h : donTo l (i + 1) = false) : ∀ k, i + 1 ≤ k → donTo l k = false
  | 0, hk => by omega
  | k + 1, hk => by
    by_cases e : k = i
    · rw [e]; exact h
    · rw [donTo_next, donTo_bad h k (by omega)]; rfl

structure Card where
  who : Int
  lock : Nat
  key : Nat
  deriving DecidableEq, Inhabited
structure Parcel where
  frm : Int
  to : Int
  data : List Nat
  deriving DecidableEq, Inhabited
structure Opening where
  who : Int
  own : Bool
  vals : List Nat
  deriving DecidableEq, Inhabited
structure Wd where
  kind : Int
  frm : Int
  why : Int
  cards : List Card
  parcels : List Parcel
  vector : List Nat
  who : List Int
  openings : List Opening
  deriving DecidableEq

def wardenB (k : Int) : Bool := decide (k = 2) || decide (k = 4) || decide (k = 6)
def pcB (p : Parcel) : Bool := whoB p.frm && whoB p.to && decide (p.data.length ≤ 64)
def ogB (o : Opening) : Bool := decide (o.vals.length ≤ 5)
def pcL (k : Int) (l : List Parcel) : List Int := l.map fun p => if k = 3 then p.to else p.frm
def hasN (c : Wd) : Nat := if c.kind = 1 ∨ c.kind = 2 then c.cards.length else if c.kind = 3 ∨ c.kind = 4 then c.parcels.length else if c.kind = 5 then c.vector.length else if c.kind = 6 then c.who.length else if c.kind = 7 then c.openings.length else 0
def allN (c : Wd) : Nat := c.cards.length + c.parcels.length + c.vector.length + c.who.length + c.openings.length
/-- May a word be said? -/
def goodB (c : Wd) : Bool :=
  if c.kind < 1 ∨ 8 < c.kind then false
  else if (wardenB c.kind != decide (c.frm = 0)) || (!wardenB c.kind && !whoB c.frm) then false
  else if !(c.parcels.all pcB && c.openings.all ogB) || decide (allN c ≠ hasN c) || decide (256 < c.vector.length) || !donB c.who || !donB (pcL c.kind c.parcels) || !donB (c.openings.map (·.who)) then false
  else if c.kind = 1 then decide (c.why = 0) && decide (c.cards.length = 1) && decide ((c.cards.map (·.who)).getD 0 0 = c.frm)
  else if c.kind = 8 then decide (1 ≤ c.why) && decide (c.why ≤ 17)
  else decide (c.why = 0) && donB (c.cards.map (·.who))

/-- Its fields. -/
def cardT (x : Card) : List Nat := le4 x.who.toNat ++ le8 x.lock ++ le8 x.key
def parcelT (x : Parcel) : List Nat := le4 x.frm.toNat ++ le4 x.to.toNat ++ fieldB x.data
def openingT (x : Opening) : List Nat := le4 x.who.toNat ++ le4 (if x.own then 1 else 0) ++ le4 x.vals.length ++ x.vals.flatMap le8
def textT (c : Wd) : List Nat := le4 c.kind.toNat ++ le4 c.frm.toNat ++ le4 c.why.toNat ++ le4 c.cards.length ++ c.cards.flatMap cardT ++ le4 c.parcels.length ++ c.parcels.flatMap parcelT ++ le4 c.vector.length ++ c.vector.flatMap le4 ++ le4 c.who.length ++ c.who.flatMap (fun n => le4 n.toNat) ++ le4 c.openings.length ++ c.openings.flatMap openingT
end Wn
end Go.Proofs.Ytepchjpdfmleoaa
