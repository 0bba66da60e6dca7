/-
  What layer 6's calls owe, told by values alone (the walks of its statements ask no more).
-/
import Derived.Test.YthfaahngnnfefaaRefValue
import Derived.Test.YthfaahngnnfefaaSame
namespace Go.Proofs.Ythfaahngnnfefaa
open Go.RowKit M Pm
set_option linter.unusedVariables false

/-- A list below P, without 0 at the end, of at most n numbers, with these values. -/
structure PolyOf (s : List Nat) (k n : Nat) (f : Fp → Fp) : Prop where
  len : s.length = k
  le : k ≤ n
  lt : ∀ y ∈ s, y < 2305843009213693951
  tight : Tight (s.map F)
  val : ∀ x, ev (s.map F) x = f x
theorem PolyOf.lt64 {s : List Nat} {k n : Nat} {f : Fp → Fp} (h : PolyOf s k n f) : ∀ y ∈ s, y < 18446744073709551616 := fun y hy => by have := h.lt y hy; omega
theorem PolyOf.trim {s : List Nat} {k n : Nat} {f : Fp → Fp} (h : PolyOf s k n f) (hn : n < 1152921504606846976) : trimN s = s := trimN_self (by have := h.len; have := h.le; omega) h.lt h.tight
theorem PolyOf.same {s t : List Nat} {k n j m : Nat} {f g : Fp → Fp} (h : PolyOf s k n f) (h' : PolyOf t j m g) (hn : n < 1152921504606846976) (hm : m < 1152921504606846976) (e : ∀ x, f x = g x) : s = t :=
  same_nat (n := n + m) (by omega) (by have := h.len; have := h.le; omega) (by have := h'.len; have := h'.le; omega) h.lt h'.lt (fun x => by rw [h.val, h'.val, e]) h.tight h'.tight
theorem PolyOf.at {s : List Nat} {k n : Nat} {f : Fp → Fp} (h : PolyOf s k n f) (x : Nat) : evN s x = (f (F x)).val := by unfold evN; rw [h.val]

/-- A slice of these numbers. -/
def Nums (w : World) (a : Option Addr) (n cap : Nat) (l : List Nat) : Prop := l.length = n ∧ n ≤ cap ∧ (∀ y ∈ l, y < 18446744073709551616) ∧ Rd w a (nums .u64 l)
theorem Nums.mono {w w' : World} {a : Option Addr} {n cap : Nat} {l : List Nat} (h : Nums w a n cap l) (o : Old w w') : Nums w' a n cap l := ⟨h.1, h.2.1, h.2.2.1, h.2.2.2.mono o⟩
def PtsOf (w : World) (a : Option Addr) (n cap : Nat) (ps : List Pt) : Prop := ps.length = n ∧ n ≤ cap ∧ (∀ p ∈ ps, -9223372036854775808 ≤ p.1 ∧ p.1 ≤ 9223372036854775807 ∧ p.2 < 18446744073709551616) ∧ Pts w a ps
theorem PtsOf.mono {w w' : World} {a : Option Addr} {n cap : Nat} {ps : List Pt} (h : PtsOf w a n cap ps) (o : Old w w') : PtsOf w' a n cap ps := ⟨h.1, h.2.1, h.2.2.1, h.2.2.2.mono o⟩

def AtC : Prop := ∀ (l : List Nat) (n x : Nat) (a : Option Addr) (cap : Nat) (w : World), Nums w a n cap l → n ≤ 1048576 → x < 18446744073709551616 →
  Calls Try.prog 34 #[.slice a n cap, .int .u64 (x : Nat)] w fun e w' => e = .returned (.int .u64 (evN l x : Nat)) ∧ Old w w'
/-- A new list with these values. -/
def NewPoly (n : Nat) (f : Fp → Fp) (e : Ending) (w w' : World) : Prop := ∃ (s : List Nat) (r : Option Addr) (k cr : Nat), e = .returned (.slice r k cr) ∧ PolyOf s k n f ∧ k ≤ cr ∧ Rd w' r (nums .u64 s) ∧ Old w w'
def AddC : Prop := ∀ (xs ys : List Nat) (n m : Nat) (a b : Option Addr) (ca cb : Nat) (w : World), Nums w a n ca xs → Nums w b m cb ys → n ≤ 1048576 → m ≤ 1048576 →
  Calls Try.prog 38 #[.slice a n ca, .slice b m cb] w fun e w' => NewPoly (max n m) (fun x => ev (xs.map F) x + ev (ys.map F) x) e w w'
def MulC : Prop := ∀ (xs ys : List Nat) (n m : Nat) (a b : Option Addr) (ca cb : Nat) (w : World), Nums w a n ca xs → Nums w b m cb ys → n ≤ 1048576 → m ≤ 1048576 →
  Calls Try.prog 39 #[.slice a n ca, .slice b m cb] w fun e w' => NewPoly (n + m) (fun x => ev (xs.map F) x * ev (ys.map F) x) e w w'
def ThroughC : Prop := ∀ (ps : List Pt) (n : Nat) (a : Option Addr) (cap : Nat) (w : World), PtsOf w a n cap ps → n ≤ 281474976710656 →
  Calls Try.prog 32 #[.slice a n cap] w fun e w' => Old w w' ∧ ∃ (s : List Nat) (r : Option Addr) (k cr : Nat), e = .returned (.tuple #[.slice r k cr, .int .i64 (errOf ps : Nat)]) ∧ k ≤ cr ∧ (errOf ps ≠ 0 → k = 0) ∧
    (errOf ps = 0 → s.length = k ∧ k ≤ n ∧ (∀ y ∈ s, y < 2305843009213693951) ∧ Tight (s.map F) ∧ (∀ j, j < n → ev (s.map F) (ptX ps j) = ptY ps j) ∧ Rd w' r (nums .u64 s))
def zeroOf (ps : List Pt) (n : Nat) : Nat := if errOf ps = 0 then lagN ps 0 n else 0
def ZeroC : Prop := ∀ (ps : List Pt) (n : Nat) (a : Option Addr) (cap : Nat) (w : World), PtsOf w a n cap ps → n ≤ 281474976710656 →
  Calls Try.prog 27 #[.slice a n cap] w fun e w' => e = .returned (.tuple #[.int .u64 (zeroOf ps n : Nat), .int .i64 (errOf ps : Nat)]) ∧ Old w w'
structure PolyK : Prop where
  at_ : AtC
  add : AddC
  mul : MulC
  through : ThroughC
  zero : ZeroC

theorem through_ev {ps : List Pt} {n : Nat} {s : List Nat} (hl : ps.length = n) (S : SoundP ps) (hk : s.length ≤ n) (h : ∀ j, j < n → ev (s.map F) (ptX ps j) = ptY ps j) (x : Nat) : evN s x = lagN ps x n := by
  unfold evN lagN
  rw [hl, lag_any (X := ptX ps) (Y := ptY ps) (n := n) (by rw [← hl]; exact apart_X S) (by simpa using hk) h]
end Go.Proofs.Ythfaahngnnfefaa
