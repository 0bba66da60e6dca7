/-
  The document's own Take, Number and Open (offertoryref14): what they answer.
-/
import Derived.Test.YtepchjpdfmleoaaMgFields
import Derived.Test.YtepchjpdfmleoaaBxs
import Derived.Test.YtepchjpdfmleoaaMgSs
import Derived.Lib.Bytes
namespace Go.Proofs.Ytepchjpdfmleoaa
open Go.RowKit Cn
set_option linter.unusedVariables false

namespace Cn
theorem bs_take (l : List Nat) (n : Nat) : (Ssb.bstr l).extract 0 n = Ssb.bstr (l.take n) := by
  apply ByteArray.ext
  apply Array.ext'
  rw [bs_toList, ByteArray.data_extract, Array.toList_extract, bs_toList]
  simp [List.map_take]
theorem bs_drop (l : List Nat) (n : Nat) : (Ssb.bstr l).extract n (Ssb.bstr l).size = Ssb.bstr (l.drop n) := by
  apply ByteArray.ext
  apply Array.ext'
  rw [bs_toList, ByteArray.data_extract, Array.toList_extract, bs_toList, bs_size]
  rw [List.extract_eq_take_drop, List.take_of_length_le (by simp), List.map_drop]
end Cn

/-- Fields: what is left, and what was wrong. -/
def fdv (l : List Nat) (er : Int) : Value := .agg #[.string (Ssb.bstr l), .int .i64 er]
def fdc (l : List Nat) (er : Int) : List Value := [.string (Ssb.bstr l), .int .i64 er]
theorem fdc_one (l : List Nat) (er : Int) : ∀ v ∈ fdc l er, v.oneCell' = true := by
  intro v hv
  simp [fdc] at hv
  rcases hv with rfl | rfl <;> rfl



/-- What is taken, what is left then, what is wrong then. -/
def tkS (l : List Nat) (er : Int) (n : Nat) : List Nat := if er ≠ 0 then [] else if l.length < n then [] else l.take n
def tkL (l : List Nat) (er : Int) (n : Nat) : List Nat := if er ≠ 0 then l else if l.length < n then [] else l.drop n
def tkE (l : List Nat) (er : Int) (n : Nat) : Int := if er ≠ 0 then er else if l.length < n then 3 else 0

theorem results_tmp_cell {P : Program} {fn : Func} {p q : Tmp} {ty : TypeId} (h : fn.results = #[.tmp q, .cell p ty]) {tmps : Array Value} {w : World} {g : Nat} {t : TypeId} {vs : List Value} {d : TypeDesc} {v : Value}
    (hp : tmps.getD p undef = .pointer (some ⟨g, 0, none⟩)) (hq : tmps.getD q undef = v) (R : Row w g t vs)
    (hu : P.underlying ty = some d) (hd : (match d with | .struct _ | .array _ _ => true | _ => false) = true) (hi : (P.info? ty).map (·.size) = some vs.length) :
    (results fn tmps).run P w = .ok (.tuple #[v, .agg vs.toArray]) w := by
  have hp' : tmps[p]?.getD undef = .pointer (some ⟨g, 0, none⟩) := by simpa using hp
  have hq' : tmps[q]?.getD undef = v := by simpa using hq
  simp [results, h, hp', hq', asAddr, run_loadVar_row w g t ty vs.toArray (0, 0) d R hu hd (by simpa using hi)]



/-- The next bytes as a number. -/
def nmN (l : List Nat) (er : Int) (n : Nat) : Nat := numL (tkS l er n)
theorem tkS_lt {l : List Nat} (hl : ∀ x ∈ l, x < 256) (er : Int) (n : Nat) : ∀ x ∈ tkS l er n, x < 256 := by
  unfold tkS
  split
  · simp
  · split
    · simp
    · exact fun x hx => hl x (List.mem_of_mem_take hx)
theorem tkL_lt {l : List Nat} (hl : ∀ x ∈ l, x < 256) (er : Int) (n : Nat) : ∀ x ∈ tkL l er n, x < 256 := by
  unfold tkL
  split
  · exact hl
  · split
    · simp
    · exact fun x hx => hl x (List.mem_of_mem_drop hx)
theorem tkS_len (l : List Nat) (er : Int) (n : Nat) : (tkS l er n).length ≤ n := by
  unfold tkS
  split
  · simp
  · split
    · simp
    · simp; omega
theorem tkL_len (l : List Nat) (er : Int) (n : Nat) : (tkL l er n).length ≤ l.length := by
  unfold tkL
  split
  · simp
  · split
    · simp
    · simp



namespace Cn
theorem bs_inj {l m : List Nat} (hl : ∀ x ∈ l, x < 256) (hm : ∀ x ∈ m, x < 256) (h : Ssb.bstr l = Ssb.bstr m) : l = m := by
  have h1 : l.map UInt8.ofNat = m.map UInt8.ofNat := by rw [← bs_toList, ← bs_toList, h]
  have back : ∀ k : List Nat, (∀ x ∈ k, x < 256) → (k.map UInt8.ofNat).map UInt8.toNat = k := by
    intro k hk
    rw [List.map_map]
    conv => rhs; rw [← List.map_id k]
    apply List.map_congr_left
    intro x hx
    have := hk x hx
    simp
    omega
  rw [← back l hl, ← back m hm, h1]
theorem bs_tl (l : List Nat) : (Ssb.bstr l).toList = l.map UInt8.ofNat := by
  unfold Ssb.bstr
  rw [Lib.strOfNums_toList]
  simp [Lib.bytesOf]
theorem bs_toList_inj {l m : List Nat} (hl : ∀ x ∈ l, x < 256) (hm : ∀ x ∈ m, x < 256) (h : (Ssb.bstr l).toList = (Ssb.bstr m).toList) : l = m :=
  bs_inj hl hm (by
    apply ByteArray.ext
    apply Array.ext'
    rw [bs_toList, bs_toList, ← bs_tl, ← bs_tl, h])
end Cn

/-- What is wrong with sealed bytes, and their fields. -/
def opE (xs : List Nat) : Int := if xs.length < 4 then 3 else if 65540 < xs.length then 6 else if le4 (crc (xs.take (xs.length - 4))) ≠ xs.drop (xs.length - 4) then 2 else 0
def opL (xs : List Nat) : List Nat := if opE xs = 0 then xs.take (xs.length - 4) else []
theorem opL_lt {xs : List Nat} (h : ∀ x ∈ xs, x < 256) : ∀ x ∈ opL xs, x < 256 := by
  unfold opL
  split
  · exact fun x hx => h x (List.mem_of_mem_take hx)
  · simp
theorem opL_len (xs : List Nat) : (opL xs).length ≤ 65536 := by
  unfold opL
  split
  · rename_i h
    unfold opE at h
    rw [List.length_take]
    split at h
    · cases h
    · split at h
      · cases h
      · omega
  · simp

end Go.Proofs.Ytepchjpdfmleoaa