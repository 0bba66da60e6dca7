/-
  Whole arrays in a region that keeps its order, behind a guard that says yes: loaded, and compared.
-/
import Derived.Test.YtjbpnhibgafdmaaDoorSsbOps
import Derived.Stop.BytesEq
import Derived.BigFrame
namespace Go.Proofs.YtjbpnhibgafdmaaDoor
open Go.RowKit
set_option linter.unusedVariables false

section
variable {P : Program} {ops : Array Oper} {rest : List Oper} {o : Oper} {a : Act} {w : World} {Q : Exit → Act → World → Prop}

theorem wp_value_g (hw : Region.wanted o (yielded ops a.tmps) = true) (v : Value) (hr : (execOp a.eval o).run P w = .ok (.value v) w) (h : wpList P ops Q rest (a.put o.dst v) w) : wpList P ops Q (o :: rest) a w :=
  BigFrame.wpList_want hw fun K hK => by
    unfold Oper.wp
    rw [hr]
    exact hK _ _ h
theorem wp_load_whole_g (hw : Region.wanted o (yielded ops a.tmps) = true) (ty : TypeId) (x : Operand) (ho : o.op = .load ty x) (g : Nat) (hx : a.eval x = .pointer (some ⟨g, 0, none⟩)) {cs : List Value} (R : w.rangeAt g 0 cs) {d : TypeDesc}
    (hu : P.underlying ty = some d) (hd : d.isRow = true) (hi : (P.info? ty).map (·.size) = some cs.length)
    (h : wpList P ops Q rest (a.put o.dst (.agg cs.toArray)) w) : wpList P ops Q (o :: rest) a w :=
  wp_value_g hw _ (by
    unfold execOp
    simp only [ho, hx, Sem.run_bind, Sem.run_pure, Result.andThen_ok, run_loadAt_mid w g 0 ty cs d R hu hd hi]) h
theorem wp_ne_whole_g (hw : Region.wanted o (yielded ops a.tmps) = true) (ty u : TypeId) (x y : Operand) (ho : o.op = .binOp .neq ty x y u) (X Y : Array Value) (hx : a.eval x = .agg X) (hy : a.eval y = .agg Y) (hg : P.eqGuardType P.depth ty = false) (b : Bool)
    (he : (Op.equalIn 10000 ty (.agg X) (.agg Y)).run P w = .ok b w) (h : wpList P ops Q rest (a.put o.dst (.bool (!b))) w) : wpList P ops Q (o :: rest) a w :=
  wp_value_g hw _ (by
    unfold execOp
    simp only [ho, hx, hy, Sem.run_bind, run_eqGuard_agg w .neq ty _ _ X Y hg, Result.andThen_ok, run_neq_struct w ty X Y, he, Sem.run_pure]) h
theorem wp_eq_whole_g (hw : Region.wanted o (yielded ops a.tmps) = true) (ty u : TypeId) (x y : Operand) (ho : o.op = .binOp .eql ty x y u) (X Y : Array Value) (hx : a.eval x = .agg X) (hy : a.eval y = .agg Y) (hg : P.eqGuardType P.depth ty = false) (b : Bool)
    (he : (Op.equalIn 10000 ty (.agg X) (.agg Y)).run P w = .ok b w) (h : wpList P ops Q rest (a.put o.dst (.bool b)) w) : wpList P ops Q (o :: rest) a w :=
  wp_value_g hw _ (by
    unfold execOp
    simp only [ho, hx, hy, Sem.run_bind, run_eqGuard_agg w .eql ty _ _ X Y hg, Result.andThen_ok, run_eql_struct w ty X Y, he, Sem.run_pure]) h
end

theorem nums_cells (bl : List Nat) (hb : ∀ x ∈ bl, x < 256) : nums .u8 bl = (bl.map UInt8.ofNat).map Extern.Stop.cell := by
  unfold nums
  rw [List.map_map]
  refine List.map_congr_left fun x hx => ?_
  have := hb x hx
  simp only [Function.comp, Extern.Stop.cell]
  congr 1
  rw [UInt8.toNat_ofNat_of_lt' (by simpa using this)]
  rfl
theorem map_bytes {xs ys : List Nat} (hx : ∀ x ∈ xs, x < 256) (hy : ∀ x ∈ ys, x < 256) (h : xs.map UInt8.ofNat = ys.map UInt8.ofNat) : xs = ys := by
  have e : ∀ l : List Nat, (∀ x ∈ l, x < 256) → (l.map UInt8.ofNat).map UInt8.toNat = l := by
    intro l hl
    rw [List.map_map]
    conv => rhs; rw [← List.map_id l]
    refine List.map_congr_left fun x hx => ?_
    have := hl x hx
    simp only [Function.comp, id]
    exact UInt8.toNat_ofNat_of_lt' (by simpa using this)
  rw [← e xs hx, ← e ys hy, h]
/-- Arrays of bytes are compared place by place. -/
theorem eq_bytes {P : Program} {t e : TypeId} {n : Nat} (ht : P.underlying t = some (.array n e)) (he : P.underlying e = some (.int .u8)) (hs : ∀ w : World, (sizeOf e).run P w = .ok 1 w) (xs ys : List Nat) (hx : xs.length = n) (hy : ys.length = n) (bx : ∀ x ∈ xs, x < 256) (by_ : ∀ x ∈ ys, x < 256) (w : World) :
    (Op.equalIn 10000 t (.agg (nums .u8 xs).toArray) (.agg (nums .u8 ys).toArray)).run P w = .ok (decide (xs = ys)) w := by
  rw [nums_cells xs bx, nums_cells ys by_]
  have := run_equalIn_bytes (P := P) w 9998 t e n ht he hs (xs.map UInt8.ofNat) (ys.map UInt8.ofNat) (by simpa using hx) (by simpa using hy)
  rw [this]
  congr 1
  by_cases h : xs = ys
  · subst h; simp
  · have : xs.map UInt8.ofNat ≠ ys.map UInt8.ofNat := fun h' => h (map_bytes bx by_ h')
    simp [h, this]
end Go.Proofs.YtjbpnhibgafdmaaDoor
