/-
  Package wide: what Add, Sub, Neg, Mul answer.
-/
import Derived.Test.YtindmmipncclbaaDoorWideC
import Derived.Test.YtindmmipncclbaaDoorShelf9
import Derived.Shelf.Spec.BitsCarry
import Derived.Laws.Pointers
namespace Go.Proofs.YtindmmipncclbaaDoor
open Go.RowKit Wd
set_option linter.unusedVariables false

/- the library's sums and differences with what goes over, laid at this program -/
def carryRen : Go.Shelf.Ren := ⟨fun | 25 => 25 | 26 => 26 | n => n, fun | 22 => 22 | n => n, fun | n => n⟩
theorem addLays : Go.Proofs.Lays7.n25 Tryd.prog carryRen := {
  mixed := by kernel_rfl
  f25 := Tryd.func25.trans (congrArg some (by kernel_rfl))
  t22 := Tryd.underlying22
  a22 := Tryd.isAgg22
  z22 := Tryd.sizeOf22
  v22 := Tryd.zeroValue22
  i22 := by kernel_rfl }
theorem subLays : Go.Proofs.Lays7.n26 Tryd.prog carryRen := {
  mixed := by kernel_rfl
  f26 := Tryd.func26.trans (congrArg some (by kernel_rfl))
  t22 := Tryd.underlying22
  a22 := Tryd.isAgg22
  z22 := Tryd.sizeOf22
  v22 := Tryd.zeroValue22
  i22 := by kernel_rfl }
theorem add64_run (x y c s d : Nat) (hc : c ≤ 1) (hs : (x + y + c) % 18446744073709551616 = s) (hd : (x + y + c) / 18446744073709551616 = d) (w : World) :
    (callFunc 25 #[.int .u64 (x : Nat), .int .u64 (y : Nat), .int .u64 (c : Nat)]).run Tryd.prog w = .ok (.value (.tuple #[.int .u64 (s : Nat), .int .u64 (d : Nat)])) w := by
  have := Any7.bits_Add64 addLays x y c hc w
  rw [hs, hd] at this
  exact this
theorem sub64_run (x y c s d : Nat) (hc : c ≤ 1) (hs : (x + 18446744073709551616 - y - c) % 18446744073709551616 = s) (hd : (if x < y + c then 1 else 0) = d) (w : World) :
    (callFunc 26 #[.int .u64 (x : Nat), .int .u64 (y : Nat), .int .u64 (c : Nat)]).run Tryd.prog w = .ok (.value (.tuple #[.int .u64 (s : Nat), .int .u64 (d : Nat)])) w := by
  have := Any7.bits_Sub64 subLays x y c hc w
  rw [hs, hd] at this
  exact this

theorem Old.of_alloc3 (w : World) (a b c : Obj) : Old w (((w.alloc a).alloc b).alloc c) := ((Old.of_alloc w a).alloc b).alloc c

set_option maxHeartbeats 1000000 in
theorem Add_any9 : AddC9 := by
  intro x y hx hy w
  have A1 := fun w => add64_run (lo x) (lo y) 0 (lo (x + y)) ((lo x + lo y) / 18446744073709551616) (by omega) (by unfold lo; omega) (by omega) w
  have A2 := fun w => add64_run (hi x) (hi y) ((lo x + lo y) / 18446744073709551616) (hi (x + y)) ((hi x + hi y + (lo x + lo y) / 18446744073709551616) / 18446744073709551616) (by have := lo_lt x; have := lo_lt y; omega) (by unfold hi lo; omega) rfl w
  rw [show ((0 : Nat) : Int) = 0 from rfl] at A1
  unfold wv
  revert A1 A2
  generalize (hi x + hi y + (lo x + lo y) / 18446744073709551616) / 18446744073709551616 = d
  generalize (lo x + lo y) / 18446744073709551616 = c
  generalize lo (x + y) = s
  generalize hi (x + y) = t
  generalize hi x = h
  generalize lo x = l
  generalize hi y = h'
  generalize lo y = l'
  intro A1 A2
  go_enter Tryd.func12, Tryd.ntmps12
  go_wp2_with (first | simp only [A1] | simp only [A2])
  simp [bodyPost, results, Tryd.results12, go_sem]
  exact Old.of_alloc3 _ _ _ _

set_option maxHeartbeats 1000000 in
theorem Sub_any9 : SubC9 := by
  intro x y hx hy w
  have A1 := fun w => sub64_run (lo x) (lo y) 0 (lo (x + (M - y))) (if lo x < lo y then 1 else 0) (by omega) (by unfold lo M at *; omega) (by rfl) w
  have A2 := fun w => sub64_run (hi x) (hi y) (if lo x < lo y then 1 else 0) (hi (x + (M - y))) (if hi x < hi y + (if lo x < lo y then 1 else 0) then 1 else 0) (by split <;> omega) (by unfold hi lo M at *; split <;> omega) rfl w
  rw [show ((0 : Nat) : Int) = 0 from rfl] at A1
  unfold wv
  revert A1 A2
  generalize (if hi x < hi y + (if lo x < lo y then 1 else 0) then 1 else 0) = d
  generalize (if lo x < lo y then 1 else 0) = c
  generalize lo (x + (M - y)) = s
  generalize hi (x + (M - y)) = t
  generalize hi x = h
  generalize lo x = l
  generalize hi y = h'
  generalize lo y = l'
  intro A1 A2
  go_enter Tryd.func15, Tryd.ntmps15
  go_wp2_with (first | simp only [A1] | simp only [A2])
  simp [bodyPost, results, Tryd.results15, go_sem]
  exact Old.of_alloc3 _ _ _ _

set_option maxHeartbeats 1000000 in
theorem Neg_any9 : NegC9 := by
  intro x hx w
  have C := hide (fun w => Sub_any9 0 x (by unfold M; omega) hx w)
  rw [show 0 + (M - x) = M - x by omega] at C
  unfold wv at C ⊢
  rw [show hi 0 = 0 from rfl, show lo 0 = 0 from rfl] at C
  revert C
  generalize hi (M - x) = s
  generalize lo (M - x) = t
  generalize hi x = h
  generalize lo x = l
  intro C
  go_enter Tryd.func17, Tryd.ntmps17
  go_wp2_with fail
  refine (C.out _).mono ?_
  rintro e w1 ⟨rfl, o⟩
  have R := (Row.new (w.alloc (.cells #[.int .u64 (h : Nat), .int .u64 (l : Nat)] 24)) 24 [.int .u64 0, .int .u64 0]).mono o
  have O := (Old.of_alloc w (.cells #[.int .u64 (h : Nat), .int .u64 (l : Nat)] 24)).trans ((Old.of_alloc _ _).trans o)
  rw [size_allocW] at R
  clear o C
  go_wp2_with (refine wp_store_whole rfl 24 _ _ rfl (w.heap.size + 1) rfl [.int .u64 (s : Nat), .int .u64 (t : Nat)] rfl R infoW rfl (two_ints _ _) ?_; rintro w9 h9
               have E9 : Row w9 (w.heap.size + 1) 24 [.int .u64 (s : Nat), .int .u64 (t : Nat)] ∧ Old w w9 := by subst h9; exact ⟨R.whole _, O.grown (grown_setRow _ _ _) (by omega)⟩
               clear h9 R O)
  exact bodyPost_ret (v := .agg #[.int .u64 (s : Nat), .int .u64 (t : Nat)]) (results_whole rfl rfl E9.1 Tryd.underlying24 rfl infoW) rfl ⟨rfl, E9.2⟩

set_option maxHeartbeats 1000000 in
theorem Mul_any9 : MulC9 := by
  intro a b ha hb w
  have C := hide (fun w => Any.bits_Mul64 mul64Lays a b ha hb w)
  have e1 : a * b / 18446744073709551616 = hi (a * b) := by
    have : a * b / 18446744073709551616 < 18446744073709551616 := by
      rw [Nat.div_lt_iff_lt_mul (by omega)]
      exact Nat.mul_lt_mul'' ha hb
    unfold hi
    omega
  have e2 : a * b % 18446744073709551616 = lo (a * b) := rfl
  rw [e1, e2] at C
  clear e1 e2
  unfold wv
  revert C
  generalize hi (a * b) = s
  generalize lo (a * b) = t
  intro C
  go_enter Tryd.func18, Tryd.ntmps18
  go_wp2_with fail
  refine (C.out _).mono ?_
  rintro e w' ⟨rfl, rfl⟩
  go_wp2_with fail
  simp [bodyPost, results, Tryd.results18, go_sem]
  exact Old.of_alloc _ _
end Go.Proofs.YtindmmipncclbaaDoor
