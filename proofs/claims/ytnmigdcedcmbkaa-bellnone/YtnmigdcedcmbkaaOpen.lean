/-
  What a walk is told of each argument, by its type, out of its reading as data.
-/
import Derived.Test.YtnmigdcedcmbkaaMem
import Derived.ProofKit
import Derived.OpenShut
import Derived.ShutString
import Derived.ChangeOld
import Derived.Below
import Derived.SizedLaws
import Derived.JoinedCond
import Derived.Deep.Matrix
namespace Go.Proofs.Ytnmigdcedcmbkaa
open Go.RowKit Go.ChangeShapes Go.WideShapes Go.ChangeAt Go.Deep
set_option linter.unusedVariables false

/-- An integer of its kind. -/
def IsInt (k : IntKind) (v : Value) : Prop := ∃ n : Int, v = .int k n ∧ (Lit.int k n).wf = true
/-- A slice of numbers below B, at most M of them. -/
def IsNums (k : IntKind) (B M : Nat) (w : World) (v : Value) : Prop :=
  ∃ (a : Option Addr) (len cap : Nat) (xs : List Nat), v = .slice a len cap ∧ xs.length = len ∧ (∀ x ∈ xs, x < B) ∧ Rd w a (nums k xs) ∧ len ≤ M ∧ len ≤ cap
/-- A slice of slices of numbers below B, at most M of each. -/
def IsRows (k : IntKind) (B M : Nat) (w : World) (v : Value) : Prop :=
  ∃ (al : Option Addr) (m cl : Nat) (ps : List (Sl × List Nat)), v = .slice al m cl ∧ ps.length = m ∧ Rds k w al ps ∧ (∀ p ∈ ps, (∀ x ∈ p.2, x < B) ∧ p.1.len ≤ M) ∧ m ≤ M ∧ m ≤ cl

/-- An array of n numbers below B. -/
def IsArr (k : IntKind) (B n : Nat) (v : Value) : Prop := ∃ xs : List Nat, v = .agg (nums k xs).toArray ∧ xs.length = n ∧ ∀ x ∈ xs, x < B

section
variable {H : Type} {enc : TypeId × Value → H} {P : Program} {W : World} {base : Nat}

theorem open_isInt {t : TypeId} {k : IntKind} {v : Value} {d : DataW H} {p : List MemPlace} (ht : P.underlying t = some (.int k)) (hv : Value.okWide P W .any base t v)
    (h : DataW.Trod enc P W 0 (fun _ => true) true t v d p) : IsInt k v := by
  obtain ⟨x, rfl, rfl, rfl, wx⟩ := open_int ht hv h
  exact ⟨x, rfl, wx⟩

theorem open_isArr {t e : TypeId} {k : IntKind} {B n : Nat} {v : Value} {d : DataW H} {p : List MemPlace} (hk : ∀ n, (Lit.int k n).wf = true → 0 ≤ n ∧ n < B)
    (ht : P.underlying t = some (.array n e)) (he : P.underlying e = some (.int k)) (ce : P.cellsOf e = 1) (ct : P.cellsOf t = n) (hv : Value.okWide P W .any base t v)
    (h : DataW.Trod enc P W 0 (fun _ => true) true t v d p) : IsArr k B n v := by
  have hv' : ∃ cs, v = .agg cs ∧ cs.size = P.cellsOf t := by
    unfold Value.okWide at hv
    rw [ht] at hv
    obtain ⟨cs, h1, h2, _⟩ := hv
    exact ⟨cs, h1, h2⟩
  obtain ⟨cs, rfl, hs⟩ := hv'
  obtain ⟨fuel, hf⟩ := h
  obtain ⟨xs, m, _, _, hl, hxl, hc⟩ := DataW.trod_array ht hf
  simp only [Value.cells] at hl hc
  have hsz : cs.toList.length = n := by rw [hl, ct]
  have each : ∀ i, i < n → ∃ z : Nat, cs.toList[i]? = some (.int k (z : Int)) ∧ z < B := by
    intro i hi
    have h1 := hc i hi
    rw [ce, Nat.mul_one, List.getElem?_eq_getElem (by omega)] at h1
    obtain ⟨z, h2, _, h3⟩ := DataW.trod_int he h1
    have h4 := hk z h3
    refine ⟨z.toNat, ?_, by omega⟩
    have h5 := congrArg (·[0]?) h2
    rw [Int.toNat_of_nonneg h4.1]
    simpa [List.getElem?_take, List.getElem?_drop] using h5
  obtain ⟨Z, hZ⟩ := choose_lt each
  refine ⟨(List.range n).map Z, ?_, by simp, ?_⟩
  · congr 1
    apply Array.toList_inj.1
    apply List.ext_getElem?
    intro i
    by_cases hi : i < n
    · rw [(hZ i hi).1]
      simp [nums, hi]
    · rw [List.getElem?_eq_none (by omega)]
      simp [nums, hi]
  · intro x hx
    obtain ⟨i, hi, rfl⟩ := List.mem_map.1 hx
    exact (hZ i (List.mem_range.1 hi)).2

theorem open_isNums {t e : TypeId} {k : IntKind} {B M : Nat} {v : Value} {d : DataW H} {p : List MemPlace} (hk : ∀ n, (Lit.int k n).wf = true → 0 ≤ n ∧ n < B)
    (ht : P.underlying t = some (.slice e)) (he : P.underlying e = some (.int k)) (ce : P.cellsOf e = 1) (hv : Value.okWide P W .any base t v)
    (h : DataW.Trod enc P W 0 (fun _ => true) true t v d p) (hM : ∀ elems spare, d = .slice elems spare → elems.length + spare.length ≤ M) : IsNums k B M W v := by
  obtain ⟨a, len, cap, rfl⟩ := okWide_slice ht hv
  obtain ⟨fuel, hf⟩ := h
  rcases open_ints ht he ce hf with ⟨hcs, _⟩ | ⟨x, l, c, zs, hcs, _, hl, hm, hz, hx, hcell, hwz⟩
  · simp [Value.cells] at hcs
    obtain ⟨rfl, rfl, rfl⟩ := hcs
    exact ⟨none, 0, 0, [], rfl, rfl, by simp, Rd.nil _, Nat.zero_le _, Nat.le_refl _⟩
  · simp [Value.cells] at hcs
    obtain ⟨rfl, rfl, rfl⟩ := hcs
    simp only [if_true] at hz
    simp only [Prod.mk.injEq] at hx
    have hb := hM _ _ hx.1
    simp [lits] at hb
    obtain ⟨xs, h1, h2, h3⟩ := rd_of_ints hk hl hz (fun i hi => hcell i (by omega)) hwz
    exact ⟨_, _, _, xs, rfl, h1, h2, h3, by omega, hl⟩

theorem open_isRows {t e q : TypeId} {k : IntKind} {B M : Nat} {v : Value} {d : DataW H} {p : List MemPlace} (hk : ∀ n, (Lit.int k n).wf = true → 0 ≤ n ∧ n < B)
    (ht : P.underlying t = some (.slice e)) (he : P.underlying e = some (.slice q)) (hq : P.underlying q = some (.int k)) (ce : P.cellsOf e = 1) (cq : P.cellsOf q = 1) (hv : Value.okWide P W .any base t v)
    (h : DataW.Trod enc P W 0 (fun _ => true) true t v d p) (hM : ∀ elems spare, d = .slice elems spare → elems.length ≤ M ∧ ∀ x y, .slice x y ∈ elems → x.length ≤ M) : IsRows k B M W v := by
  obtain ⟨a, len, cap, rfl⟩ := okWide_slice ht hv
  obtain ⟨fuel, hf⟩ := h
  rcases open_int_rows ht he hq ce cq hf with ⟨hcs, _⟩ | ⟨x, l, c, A, L, C, Z, hcs, _, hl, hm, hx, hr⟩
  · simp [Value.cells] at hcs
    obtain ⟨rfl, rfl, rfl⟩ := hcs
    exact ⟨none, 0, 0, [], rfl, rfl, ⟨Rd.nil _, by simp⟩, by simp, Nat.zero_le _, Nat.le_refl _⟩
  · simp [Value.cells] at hcs
    obtain ⟨rfl, rfl, rfl⟩ := hcs
    simp only [Prod.mk.injEq] at hx
    obtain ⟨hb1, hb2⟩ := hM _ _ hx.1
    simp at hb1
    have each : ∀ r, r < len → ∃ xs : List Nat, xs.length = L r ∧ (∀ x ∈ xs, x < B) ∧ Rd W (A r) (nums k xs) := by
      intro r hrl
      obtain ⟨e1, e2, e3, e4, e5, e6, e7⟩ := hr r (by omega)
      cases hA : A r with
      | none =>
        have := e6 hA
        exact ⟨[], by simp; omega, by simp, Rd.nil _⟩
      | some a' => exact rd_of_ints hk e2 e4 (e7 a' hA).2 e5
    obtain ⟨X, hX⟩ := choose_lt each
    refine ⟨_, _, _, (List.range len).map fun r => (⟨A r, L r, C r⟩, X r), rfl, by simp, ⟨?_, ?_⟩, ?_, hb1, hl⟩
    · intro i v hv
      have hi : i < len := by
        have := (List.getElem?_eq_some_iff.1 hv).1
        simpa using this
      have hv' : v = .slice (A i) (L i) (C i) := by
        simp [hi, Sl.v] at hv
        exact hv.symm
      subst hv'
      obtain ⟨e1, _⟩ := hr i (by omega)
      have hs := addr_none (hr 0 (by omega)).1
      obtain ⟨b, off, sp⟩ := x
      simp at hs
      subst hs
      rw [Addr.add_lit] at e1
      exact ⟨b, off, rfl, e1⟩
    · intro p hp
      obtain ⟨r, hr', rfl⟩ := List.mem_map.1 hp
      have hX' := hX r (List.mem_range.1 hr')
      exact ⟨hX'.1, hX'.2.2⟩
    · intro p hp
      obtain ⟨r, hr', rfl⟩ := List.mem_map.1 hp
      have hrl := List.mem_range.1 hr'
      have hX' := hX r hrl
      refine ⟨hX'.2.1, ?_⟩
      obtain ⟨e1, e2, e3, e4, e5, e6, e7⟩ := hr r (by omega)
      cases hA : A r with
      | none => have := e6 hA; simp; omega
      | some a' =>
        have := hb2 (lits k ((Z r).take (L r))) (lits k ((Z r).drop (L r))) (List.mem_map.2 ⟨r, hr', by simp [intRow, hA]⟩)
        simp [lits] at this
        simp
        omega
end
end Go.Proofs.Ytnmigdcedcmbkaa
