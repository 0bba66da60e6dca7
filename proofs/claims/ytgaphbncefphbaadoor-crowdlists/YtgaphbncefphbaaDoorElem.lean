/-
  Elements of slices in regions that draw: their addresses, sums; integers in rows.
-/
import Derived.Test.YtgaphbncefphbaaDoorProg
import Derived.Test.YtgaphbncefphbaaDoorSsz
import Derived.Test.YtgaphbncefphbaaDoorBinN
namespace Go.Proofs.YtgaphbncefphbaaDoor
open Go.RowKit Pn
set_option linter.unusedVariables false



/-- The address of an element of a slice. -/
theorem run_elem {P : Program} {o : Oper} {ρ : Operand → Value} (ty : TypeId) (x y : Operand) (n cap : Nat) (e : TypeId) (ho : o.op = .indexAddr ty x y) (b off k : Nat) (hx : ρ x = .slice (some ⟨b, off, none⟩) n cap) (hy : ρ y = .int .i64 (k : Int)) (hk : k < n)
    (hu : P.underlying ty = some (.slice e)) (hi : (P.info? e).map (·.size) = some 1) (w : World) : (execOp ρ o).run P w = .ok (.value (.pointer (some ⟨b, off + k, none⟩))) w := by
  unfold execOp
  cases hq : P.info? e with
  | none => simp [hq] at hi
  | some i =>
    have hsz : i.size = 1 := by simpa [hq] using hi
    have hk0 : (0 : Int) ≤ k := by omega
    have hk1 : (k : Int) < n := by omega
    simp only [ho, hx, hy]
    simp [hu, sizeOf, typeInfo, hq, hsz, hk0, hk1, go_sem]
section
variable {P : Program} {C : World → Prop} {Ext : World → World → Prop} {Ok : Tmp → Value → World → Prop} {o : Oper} {d : Tmp}
theorem el (hr : ∀ w, Ext w w) {x y : Tmp} {ty e : TypeId} {n cap : Nat} (ho : o.op = .indexAddr ty (.tmp x) (.tmp y)) (hd : o.dst = some d) (b off k : Nat) (hx : ∀ v w, Ok x v w → v = .slice (some ⟨b, off, none⟩) n cap) (hy : ∀ v w, Ok y v w → v = .int .i64 (k : Int)) (hk : k < n)
    (hu : P.underlying ty = some (.slice e)) (hi : (P.info? e).map (·.size) = some 1) (h : ∀ w, Ok d (.pointer (some ⟨b, off + k, none⟩)) w) : Ssb.Good P C Ext Ok o :=
  Ssx.val hr hd fun a w hC hop => ⟨_, run_elem ty _ _ n cap e ho b off k (hx _ _ (hop x (by rw [ho]; simp [Op.operands]))) (hy _ _ (hop y (by rw [ho]; simp [Op.operands]))) hk hu hi w, h w⟩
theorem addc (hr : ∀ w, Ext w w) {x : Tmp} {ty u : TypeId} (ho : o.op = .binOp .add ty (.tmp x) (.const (.int .i64 1)) u) (hd : o.dst = some d) (hu : P.underlying ty = some (.int .i64)) (z : Int) (hz : 0 ≤ z ∧ z < 9223372036854775807) (hx : ∀ v w, Ok x v w → v = .int .i64 z) (h : ∀ w, Ok d (.int .i64 (z + 1)) w) : Ssb.Good P C Ext Ok o :=
  Ssx.val hr hd fun a w hC hop => ⟨.int .i64 (z + 1), by
    have h1 := hx _ _ (hop x (by rw [ho]; simp [Op.operands]))
    have e : IntKind.i64.wrap (z + 1) = z + 1 := by rw [IntKind.wrap_i64]; omega
    unfold execOp
    rw [ho]
    simp only [h1]
    simp [Act.eval, e, go_sem], h w⟩
theorem addc32 (hr : ∀ w, Ext w w) {x : Tmp} {ty u : TypeId} (ho : o.op = .binOp .add ty (.tmp x) (.const (.int .u32 1)) u) (hd : o.dst = some d) (hu : P.underlying ty = some (.int .u32)) (z : Nat) (hx : ∀ v w, Ok x v w → v = .int .u32 (z : Int)) (h : ∀ w, Ok d (.int .u32 (((z + 1) % 4294967296 : Nat) : Int)) w) : Ssb.Good P C Ext Ok o :=
  Ssx.val hr hd fun a w hC hop => ⟨.int .u32 (((z + 1) % 4294967296 : Nat) : Int), by
    have h1 := hx _ _ (hop x (by rw [ho]; simp [Op.operands]))
    have e : IntKind.u32.wrap ((z : Int) + 1) = (((z + 1) % 4294967296 : Nat) : Int) := by show ((z : Int) + 1) % 4294967296 = _; omega
    unfold execOp
    rw [ho]
    simp only [h1]
    simp [Act.eval, e, go_sem], h w⟩
end

theorem ints_set (cs : List Int) (p : Nat) (z : Int) : (ints cs).set p (.int .i64 z) = ints (cs.set p z) := by simp [ints, List.map_set]

theorem rd_at {w : World} {b off : Nat} {es : List Int} (h : Rd w (some ⟨b, off, none⟩) (ints es)) {i : Nat} (hi : i < es.length) : w.cell? ⟨b, off + i, none⟩ = some (.int .i64 (es.getD i 0)) := by
  obtain ⟨b', off', e, hc⟩ := rd_int h hi
  obtain ⟨rfl, rfl⟩ : b = b' ∧ off = off' := by simpa using e
  exact hc
theorem row_at {w : World} {g : Nat} {t : TypeId} {cs : List Int} (h : Row w g t (ints cs)) {i : Nat} (hi : i < cs.length) : w.cell? ⟨g, i, none⟩ = some (.int .i64 (cs.getD i 0)) := h.cell (by simp [ints, hi, List.getD])

/-- A slice of the call's own that holds these cells (and maybe more behind them). -/
def OwnS (w w' : World) (v : Value) (cs : List Value) : Prop := ∃ (g cap : Nat) (t : TypeId) (rest : List Value), v = .slice (some ⟨g, 0, none⟩) cs.length cap ∧ w.heap.size ≤ g ∧ Row w' g t (cs ++ rest)
theorem OwnS.rd {w w' : World} {v : Value} {cs : List Value} (h : OwnS w w' v cs) : ∃ g cap, v = .slice (some ⟨g, 0, none⟩) cs.length cap ∧ Rd w' (some ⟨g, 0, none⟩) cs := by
  obtain ⟨g, cap, t, rest, rfl, _, R⟩ := h
  refine ⟨g, cap, rfl, fun i x hx => ⟨g, 0, rfl, ?_⟩⟩
  rw [Nat.zero_add]
  refine R.cell ?_
  rw [List.getElem?_append_left (List.getElem?_eq_some_iff.1 hx).1]
  exact hx
/-- What a call hands back: an error, or a slice of its own. -/
def CountR (w w' : World) (e : Ending) (s : Int) (cs : List Value) : Prop := ∃ v : Value, e = .returned (.tuple #[v, .int .i64 s]) ∧ Old w w' ∧ (s = 0 → OwnS w w' v cs) ∧ (s ≠ 0 → ∃ a cap, v = .slice a 0 cap)
theorem sam_row {w : World} {g : Nat} {t : TypeId} {xs : List Int} (R : Row w g t (ints xs)) (hs : xs.length ≤ 9223372036854775807) (he : ∀ e ∈ xs, B64 e) : Sam w (some ⟨g, 0, none⟩) xs.length xs :=
  ⟨rfl, hs, he, fun i v hv => ⟨_, _, rfl, by rw [Nat.zero_add]; exact R.cell hv⟩⟩
end Go.Proofs.YtgaphbncefphbaaDoor
