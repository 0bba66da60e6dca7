/-
  What layer 9's calls owe, told by values alone (the walks of its statements ask no more); the fixed fact of its statements.
-/
import Derived.Test.YtindmmipncclbaaDoorRefText
import Derived.Test.YtindmmipncclbaaDoorRefWideB
import Derived.Test.YtindmmipncclbaaDoorRefWideC
import Derived.Test.YtindmmipncclbaaDoorRefWideE
import Derived.Lib.LaidTab
import Derived.Lib.ItoaNum
namespace Go.Proofs.YtindmmipncclbaaDoor
open Go.RowKit Wd
set_option linter.unusedVariables false

/-- The library's table of powers of ten lies as its initialiser lays it. -/
def Tab9 (w : World) : Prop := Lib.TabIs Tryd.prog w "internal/strconv.uint64pow10" .u64 Lib.pow10Tab
theorem Tab9.mono {w w' : World} (h : Tab9 w) (o : Old w w') : Tab9 w' := by
  unfold Tab9 Lib.TabIs World.var? at *
  cases hg : Tryd.prog.globalNamed "internal/strconv.uint64pow10" with
  | none => simp [hg] at h
  | some g =>
    simp only [hg, Option.bind_some] at h ⊢
    have hlt : g < w.heap.size := by
      rcases Nat.lt_or_ge g w.heap.size with h' | h'
      · exact h'
      · rw [Array.getElem?_eq_none h'] at h; simp at h
    rw [Below.block o g hlt]
    exact h

def AddC9 : Prop := ∀ x y : Nat, x < M → y < M → ∀ w : World, Calls Tryd.prog 12 #[wv x, wv y] w fun e w' => e = .returned (wv (x + y)) ∧ Old w w'
def SubC9 : Prop := ∀ x y : Nat, x < M → y < M → ∀ w : World, Calls Tryd.prog 15 #[wv x, wv y] w fun e w' => e = .returned (wv (x + (M - y))) ∧ Old w w'
def NegC9 : Prop := ∀ x : Nat, x < M → ∀ w : World, Calls Tryd.prog 17 #[wv x] w fun e w' => e = .returned (wv (M - x)) ∧ Old w w'
def MulC9 : Prop := ∀ a b : Nat, a < 18446744073709551616 → b < 18446744073709551616 → ∀ w : World, Calls Tryd.prog 18 #[.int .u64 (a : Nat), .int .u64 (b : Nat)] w fun e w' => e = .returned (wv (a * b)) ∧ Old w w'
def ShiftC9 : Prop := ∀ (x : Nat) (n : Int), x < M → -9223372036854775808 ≤ n → n ≤ 9223372036854775807 → ∀ w : World, Calls Tryd.prog 20 #[wv x, .int .i64 n] w fun e w' => e = .returned (wv (x * 2 ^ times n)) ∧ Old w w'
def CmpC9 : Prop := ∀ x y : Nat, x < M → y < M → ∀ w : World, Calls Tryd.prog 22 #[wv x, wv y] w fun e w' => e = .returned (.int .i64 (cmpZ x y)) ∧ Old w w'
def TextC9 : Prop := ∀ x : Nat, x < M → ∀ w : World, Tab9 w → Calls Tryd.prog 23 #[wv x] w fun e w' => e = .returned (.string (Ssb.bstr (decL x))) ∧ Old w w'
structure WideK : Prop where
  add : AddC9
  sub : SubC9
  neg : NegC9
  mul : MulC9
  shift : ShiftC9
  cmp : CmpC9
  text : TextC9

theorem M_pos : 0 < M := by unfold M; omega
theorem wv_mod (x : Nat) : wv (x % M) = wv x := by unfold wv; rw [(hl_mod x).1, (hl_mod x).2]
theorem wv_eq {x y : Nat} (h : x % M = y % M) : wv x = wv y := by rw [← wv_mod x, h, wv_mod]
theorem WideK.add' (K : WideK) (x y : Nat) (w : World) : Calls Tryd.prog 12 #[wv x, wv y] w fun e w' => e = .returned (wv (x + y)) ∧ Old w w' := by
  have := K.add (x % M) (y % M) (Nat.mod_lt _ M_pos) (Nat.mod_lt _ M_pos) w
  rw [wv_mod, wv_mod, wv_eq (Nat.add_mod x y M).symm] at this
  exact this
theorem WideK.shift' (K : WideK) (x : Nat) (n : Int) (h1 : -9223372036854775808 ≤ n) (h2 : n ≤ 9223372036854775807) (w : World) : Calls Tryd.prog 20 #[wv x, .int .i64 n] w fun e w' => e = .returned (wv (x * 2 ^ times n)) ∧ Old w w' := by
  have := K.shift (x % M) n (Nat.mod_lt _ M_pos) h1 h2 w
  rw [wv_mod, wv_eq (show x % M * 2 ^ times n % M = x * 2 ^ times n % M by rw [Nat.mul_mod, Nat.mod_mod, ← Nat.mul_mod])] at this
  exact this
theorem WideK.sub' (K : WideK) (x y : Nat) (hy : y < M) (w : World) : Calls Tryd.prog 15 #[wv x, wv y] w fun e w' => e = .returned (wv (x + (M - y))) ∧ Old w w' := by
  have := K.sub (x % M) y (Nat.mod_lt _ M_pos) hy w
  rw [wv_mod, wv_eq (show (x % M + (M - y)) % M = (x + (M - y)) % M by rw [Nat.add_mod, Nat.mod_mod, ← Nat.add_mod])] at this
  exact this

namespace Aw9
def d20 : List Nat := [53, 53, 51, 52, 48, 50, 51, 50, 50, 50, 49, 49, 50, 56, 54, 53, 52, 56, 52, 56]
theorem t1 : decL 55340232221128654848 = d20 := by decide +kernel
theorem c1 (K : WideK) (w : World) : Calls Tryd.prog 18 #[.int .u64 9223372036854775808, .int .u64 6] w fun e w' => e = .returned (.agg #[.int .u64 3, .int .u64 0]) ∧ Old w w' := K.mul 9223372036854775808 6 (by omega) (by omega) w
theorem c2 (K : WideK) (w : World) (T : Tab9 w) : Calls Tryd.prog 23 #[.agg #[.int .u64 3, .int .u64 0]] w fun e w' => e = .returned (.string { data := #[53, 53, 51, 52, 48, 50, 51, 50, 50, 50, 49, 49, 50, 56, 54, 53, 52, 56, 52, 56] }) ∧ Old w w' := by
  have := K.text 55340232221128654848 (by unfold M; omega) w T
  rw [t1] at this
  exact this
theorem c3 (K : WideK) (w : World) : Calls Tryd.prog 22 #[.agg #[.int .u64 3, .int .u64 0], .agg #[.int .u64 0, .int .u64 9]] w fun e w' => e = .returned (.int .i64 1) ∧ Old w w' := K.cmp 55340232221128654848 9 (by unfold M; omega) (by unfold M; omega) w
theorem c4 (K : WideK) (w : World) : Calls Tryd.prog 17 #[.agg #[.int .u64 0, .int .u64 1]] w fun e w' => e = .returned (.agg #[.int .u64 18446744073709551615, .int .u64 18446744073709551615]) ∧ Old w w' := K.neg 1 (by unfold M; omega) w
theorem c5 (K : WideK) (w : World) : Calls Tryd.prog 20 #[.agg #[.int .u64 0, .int .u64 1], .int .i64 64] w fun e w' => e = .returned (.agg #[.int .u64 1, .int .u64 0]) ∧ Old w w' := K.shift 1 64 (by unfold M; omega) (by omega) (by omega) w
theorem c6 (K : WideK) (w : World) : Calls Tryd.prog 15 #[.agg #[.int .u64 3, .int .u64 0], .agg #[.int .u64 3, .int .u64 0]] w fun e w' => e = .returned (.agg #[.int .u64 0, .int .u64 0]) ∧ Old w w' := K.sub 55340232221128654848 55340232221128654848 (by unfold M; omega) (by unfold M; omega) w
end Aw9

set_option maxHeartbeats 2000000 in
theorem awake9 (K : WideK) (w : World) (T : Tab9 w) : Calls Tryd.prog 11 #[] w fun e w' => e = .returned (.bool true) ∧ Old w w' := by
  have KK := hide K
  have TT := hide T
  clear K T
  go_enter Tryd.func11, Tryd.ntmps11
  go_wp2_with fail
  refine (Aw9.c1 KK.out _).mono ?_
  rintro e w1 ⟨rfl, o1⟩
  have R1 := hide (Row.new w1 24 [.int .u64 3, .int .u64 0])
  have O1 := o1.alloc (.cells #[.int .u64 3, .int .u64 0] 24)
  clear o1
  go_wp2_with fail
  refine (Aw9.c2 KK.out _ (TT.out.mono O1)).mono ?_
  rintro e w2 ⟨rfl, o2⟩
  have R2 := hide (R1.out.mono o2)
  have O2 := O1.trans o2
  clear R1 O1 o2
  have a0 := R2.out.cell (i := 0) rfl
  have a1 := R2.out.cell (i := 1) rfl
  go_wp2_with fail
  refine (Aw9.c3 KK.out _).mono ?_
  rintro e w3 ⟨rfl, o3⟩
  have R3 := hide (R2.out.mono o3)
  have O3 := O2.trans o3
  clear R2 O2 o3 a0 a1
  go_wp2_with fail
  refine (Aw9.c4 KK.out _).mono ?_
  rintro e w4 ⟨rfl, o4⟩
  have R4 := hide (R3.out.mono o4)
  have O4 := O3.trans o4
  clear R3 O3 o4
  go_wp2_with fail
  refine (Aw9.c5 KK.out _).mono ?_
  rintro e w5 ⟨rfl, o5⟩
  have R5 := hide (R4.out.mono o5)
  have O5 := O4.trans o5
  clear R4 O4 o5
  have a0 := R5.out.cell (i := 0) rfl
  have a1 := R5.out.cell (i := 1) rfl
  go_wp2_with fail
  refine (Aw9.c6 KK.out _).mono ?_
  rintro e w6 ⟨rfl, o6⟩
  have O6 := O5.trans o6
  clear R5 O5 o6 a0 a1
  go_wp2
  go_ret
  exact ⟨rfl, O6⟩
end Go.Proofs.YtindmmipncclbaaDoor
