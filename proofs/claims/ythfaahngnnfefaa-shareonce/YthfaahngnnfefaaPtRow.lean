/-
  Rows of points of the call's own: made, written a point at a time; numbers of one slice type appended to another slice type's.
-/
import Derived.Test.YthfaahngnnfefaaShareC
import Derived.Test.YthfaahngnnfefaaWhole
import Derived.Test.YthfaahngnnfefaaSsaOps
import Derived.Deep.MidRow
namespace Go.Proofs.Ythfaahngnnfefaa
open Go.RowKit M Pm
set_option linter.unusedVariables false

theorem cellsP_nil : cellsP [] = [] := rfl
theorem cellsP_cons (p : Pt) (r : List Pt) : cellsP (p :: r) = .int .i64 p.1 :: .int .u64 (p.2 : Nat) :: cellsP r := rfl
theorem cellsP_setP : ∀ (ps : List Pt) (i : Nat) (p : Pt), ((cellsP ps).set (i * 2) (.int .i64 p.1)).set (i * 2 + 1) (.int .u64 (p.2 : Nat)) = cellsP (ps.set i p)
  | [], i, p => by simp [cellsP]
  | q :: r, 0, p => by simp [cellsP_cons]
  | q :: r, i + 1, p => by
    have ih := cellsP_setP r i p
    rw [cellsP_cons, show (i + 1) * 2 = i * 2 + 1 + 1 by omega, show i * 2 + 1 + 1 + 1 = (i * 2 + 1) + 1 + 1 by omega]
    simp only [List.set_cons_succ]
    rw [ih, cellsP_cons]
theorem cellsP_zeros (n : Nat) : cellsP (List.replicate n (0, 0)) = (List.range (n * 2)).map fun i => if i % 2 = 0 then .int .i64 0 else .int .u64 0 := by
  induction n with
  | zero => rfl
  | succ n ih =>
    rw [List.replicate_succ', show (n + 1) * 2 = n * 2 + 1 + 1 by omega, List.range_succ, List.range_succ]
    simp only [List.map_append, List.map_cons, List.map_nil]
    rw [← ih, if_pos (by omega), if_neg (by omega)]
    simp [cellsP]

/-- A new row of points, all 0. -/
theorem make_pts {P : Program} {t e : TypeId} (ht : P.underlying t = some (.slice e)) (hi : (P.info? e).map (fun i => (i.zero, i.size, i.bytes)) = some (some (.agg #[.int .i64 0, .int .u64 0]), 2, 16))
    (n : Nat) (hn : n ≤ 1099511627776) (w : World) :
    (Instr.makeSlice t (.int .i64 (n : Int)) (.int .i64 (n : Int))).run P w = .ok (.slice (some ⟨w.heap.size, 0, none⟩) n n) (w.alloc (.cells (cellsP (List.replicate n (0, 0))).toArray e)) := by
  obtain ⟨i0, h1, h2, h3, h4⟩ := info_parts hi
  have := run_make (P := P) w t e i0 (.agg #[.int .i64 0, .int .u64 0]) ht h1 h2 .i64 .i64 (n : Int) (n : Int) (by omega) (Int.le_refl _) (by
    rw [h4]; omega) (by omega)
  rw [this, h3]
  simp only [Int.toNat_natCast]
  congr 3
  rw [cellsP_zeros]
  apply Array.ext
  · simp [madeCells, Value.cells]
  · intro i h5 h6
    rcases Nat.mod_two_eq_zero_or_one i with h | h <;> simp [madeCells, Value.cells, h]

theorem Row.two {w : World} {g : Nat} {t : TypeId} {ps : List Pt} (R : Row w g t (cellsP ps)) (i : Nat) (p : Pt) : Row (w.setCells g (i * 2) [.int .i64 p.1, .int .u64 (p.2 : Nat)]) g t (cellsP (ps.set i p)) := by
  have := (R.set (i * 2) (.int .i64 p.1)).set (i * 2 + 1) (.int .u64 (p.2 : Nat))
  rw [cellsP_setP] at this
  exact this
theorem grown_two (w : World) (g o : Nat) (u v : Value) : w.grownBy (w.setCells g o [u, v]) (some g) := grown_trans (grown_set w g o u) (grown_set _ g (o + 1) v)
theorem Row.there {w : World} {g : Nat} {t : TypeId} {ps : List Pt} (R : Row w g t (cellsP ps)) {i : Nat} (hi : i < ps.length) : w.there g (i * 2) 2 := by
  intro j hj
  refine ⟨?_, R.free _⟩
  have hl : i * 2 + j < (cellsP ps).length := by rw [cellsP_length]; omega
  rw [R.cell (List.getElem?_eq_getElem hl)]
  rfl

section
variable {P : Program} {ops : Array Oper} {rest : List Oper} {o : Oper} {a : Act} {w : World} {Q : Exit → Act → World → Prop}
/-- A point into a row of the call's own. -/
theorem wp_store_pt (hgd : o.guard = none) (ty : TypeId) (x y : Operand) (ho : o.op = .store ty x y) (g i : Nat) (z : Int) (v : Nat) (hx : a.eval x = .pointer (some ⟨g, i * 2, none⟩)) (hy : a.eval y = .agg #[.int .i64 z, .int .u64 (v : Nat)])
    {t : TypeId} {ps : List Pt} (R : Row w g t (cellsP ps)) (hi : i < ps.length) (hI : (P.info? ty).map (·.size) = some 2)
    (h : ∀ w', Row w' g t (cellsP (ps.set i (z, v))) → w.grownBy w' (some g) → wpList P ops Q rest (a.put o.dst undef) w') : wpList P ops Q (o :: rest) a w :=
  wpList_store_mid hgd ty x y ho g (i * 2) #[.int .i64 z, .int .u64 (v : Nat)] hx hy (R.there hi) hI (all_oneCell_toArray (cs := [.int .i64 z, .int .u64 (v : Nat)]) fun u hu => by
    simp at hu
    rcases hu with rfl | rfl <;> rfl) (h _ (R.two i (z, v)) (grown_two _ _ _ _ _))

theorem append_two {t u e e' ty : TypeId} (ht : P.underlying t = some (.slice e)) (hu : P.underlying u = some (.slice e')) (r s : Option Addr) (n c m d : Nat) (w : World) :
    (Builtin.append_ #[t, u] ty #[.slice r n c, .slice s m d]).run P w = (Builtin.append_ #[t, t] ty #[.slice r n c, .slice s m d]).run P w := by
  simp [Builtin.append_, run_underlying ht, run_underlying hu]

/-- Numbers of any slice more, behind those of a slice of the call's own, whose type is another one. -/
theorem wp_appendN2 (hgd : o.guard = none) (s x : Operand) (t u : TypeId) (ho : o.op = .call { callee := .builtin .append, args := #[s, x], argTypes := #[t, u] })
    (base : Nat) (e e' : TypeId) (k : IntKind) (B : Nat) (ht : P.underlying t = some (.slice e)) (hu : P.underlying u = some (.slice e')) (hi : (P.info? e).map (fun i => (i.zero, i.size, i.bytes)) = some (some (.int k 0), 1, B)) (hB : B ≤ 8)
    (v : Value) (xs : List Nat) (hs : a.eval s = v) (hown : Owns w base e k v xs) (r : Option Addr) (m c : Nat) (ys : List Nat) (hx : a.eval x = .slice r m c) (hm : ys.length = m) (rd : Rd w r (nums k ys))
    (hn : xs.length < 1099511627776) (hn2 : m ≤ 1099511627776) (hbase : base ≤ w.heap.size)
    (h : ∀ v' w', Owns w' base e k v' (xs ++ ys) → w.grownBy w' v.ownBlock → wpList P ops Q rest (a.put o.dst v') w') : wpList P ops Q (o :: rest) a w := by
  obtain ⟨i0, h1, h2, h3, h4⟩ := info_parts hi
  have hv : ∃ r0 n0 c0, v = .slice r0 n0 c0 := by
    rcases hown.2 with ⟨rfl, _⟩ | ⟨g, cap, cur, rfl, _⟩
    · exact ⟨_, _, _, rfl⟩
    · exact ⟨_, _, _, rfl⟩
  obtain ⟨r0, n0, c0, rfl⟩ := hv
  have key : ∃ v' w', (Builtin.append_ #[t, u] o.type #[.slice r0 n0 c0, .slice r m c]).run P w = .ok v' w' ∧ Owns w' base e k v' (xs ++ ys) ∧ w.grownBy w' (Value.slice r0 n0 c0).ownBlock := by
    rw [append_two ht hu]
    cases r with
    | none =>
      have h0 : ys = [] := by
        cases ys with
        | nil => rfl
        | cons y r =>
          obtain ⟨b, off, z, he, _⟩ := rd.num (i := 0) (by simp)
          cases he
      subst h0
      simp at hm
      subst hm
      refine ⟨.slice r0 n0 c0, w, ?_, by rw [List.append_nil]; exact hown, World.grownBy.refl _ _⟩
      have hown' : w.ownsRow base e 1 (.slice r0 n0 c0) xs.length (nums k xs) := hown
      rcases hown'.2 with ⟨h5, _⟩ | ⟨g, cap, cur, h5, _, _, hnc, _⟩
      · cases h5
        simp [Builtin.append_, run_underlying ht, sizeOf, typeInfo, h1, Builtin.lenOf, Builtin.firstCells]
      · cases h5
        simp [Builtin.append_, run_underlying ht, sizeOf, typeInfo, h1, Builtin.lenOf, Builtin.firstCells, hnc, storeCells]
    | some ad =>
      obtain ⟨v', w', hr, h5, h6, _⟩ := run_append_own (P := P) w base t o.type e i0 (.int k 0) 1 B ht h1 h2 h3 h4 rfl (by omega) _ xs.length (nums k xs) hown ad m c (nums k ys) (by rw [nums_length, hm]; omega) (by
        intro j u hj
        obtain ⟨b, off, ha, hc⟩ := rd j u hj
        obtain rfl := Option.some.inj ha
        rw [Addr.add_lit]; exact hc) (nums_oneCell k ys) (by show xs.length + m ≤ 9223372036854775807; omega) (by
        have : (xs.length + m) * B ≤ 2199023255552 * 8 := Nat.mul_le_mul (by omega) hB
        omega) hbase
      refine ⟨v', w', hr, ?_, h6⟩
      unfold Owns
      rw [List.length_append, hm]
      simpa [nums] using h5
  obtain ⟨v', w', hr, h5, h6⟩ := key
  refine wpList_plain hgd fun K hK => ?_
  unfold Oper.wp execOp
  simp only [ho, resolve, invoke, builtin, Sem.run_bind, Sem.run_pure, Result.andThen_ok, List.map_toArray, List.map_cons, List.map_nil, hs, hx, hr]
  exact hK _ _ (h v' w' h5 h6)
end
end Go.Proofs.Ythfaahngnnfefaa
