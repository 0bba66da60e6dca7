/-
  Called with any arguments of at most 1048576 values together, offertorylaw02.RingMany returns true and leaves its arguments as they were. Conditions: none beyond the row's own (its bound on the arguments' bulk).
-/
import Derived.Test.YtooilnpghcdjiaaRows
import Derived.Test.YtooilnpghcdjiaaLaws2m
import Derived.Test.YtooilnpghcdjiaaOpen
import Derived.Test.YtooilnpghcdjiaaBulk
import Derived.WalkKit
import Derived.ProofKit
import Derived.JoinedCond
import Derived.SizedLaws
namespace Go.Proofs.Ytooilnpghcdjiaa.ringMany
open Go.ChangeShapes Go.WideShapes Go.ChangeAt Go.RowKit
set_option linter.unusedVariables false

theorem own : ownKnob Try.prog.godebug = none := by kernel_rfl
theorem laidOut : laidOutB Try.prog = true := by kernel_rfl

set_option maxRecDepth 100000 in
theorem lifted (os : Os) (started : os.Started) (H : Type) (enc : TypeId × Value → H) (F : Stop.Interp) :
    ReturnsInHanded {} Try.checked os 4 .any ((Rows.OpenSpec.upto Rows.ringManySpec).pre6 enc Try.prog Try.f4 Rows.ringManyUptoRow.domain false) (((Rows.OpenSpec.upto Rows.ringManySpec).at F).post enc Try.prog Try.f4 false true false false) := by
  refine returnsInHanded_of_cond (C := Try.checked) (s := Rows.OpenSpec.upto Rows.ringManySpec) (k := Rows.uptoSmall) rfl own started (by kernel_rfl) Try.func4
    (OpenSpec.witness (enc := enc) (C := Try.checked) (s := Rows.OpenSpec.upto Rows.ringManySpec) (k := Rows.uptoSmall) rfl false ⟨#[], #[.int .i64 0, .slice none 0 0], []⟩ 8 (by kernel_rfl) (by kernel_rfl) (by kernel_rfl)
      (x := ([.lit (.int .i64 0), .nil], [], [])) (by kernel_rfl) rfl (by kernel_rfl)) ?_
  intro W base args ds gs before hval0 hW _ hk _
  have hval : ∀ (j : Nat) t v, Try.f4.params[j]? = some t → args[j]? = some v → Value.okWide Try.prog W .any base t v := hval0
  have hW' := hW
  obtain ⟨p, q, hA0, hV, rfl, hfz, hnd⟩ := hW
  have hA : DataW.TrodAll enc Try.prog W 0 (fun _ => true) true Try.f4.params.toList args.toList ds p := hA0
  have hb0 := bulk_small hk
  rw [Try.params4] at hA hval
  obtain ⟨v0, vs0, d0, ds0, p0, q0, hargs, rfl, rfl, h0, r0⟩ := trodAll_cons hA
  obtain ⟨v1, vs1, d1, ds1, p1, q1, rfl, rfl, rfl, h1, r1⟩ := trodAll_cons r0
  obtain ⟨rfl, rfl, rfl⟩ := trodAll_nil r1
  obtain rfl : args = #[v0, v1] := by cases args; simp_all
  obtain ⟨rfl, rfl⟩ := trodVars_none hV
  have hb := hb0
  rw [List.append_nil] at hb
  have k0 := h0
  have lt0 : ∀ x ∈ p0, x.block < W.heap.size := by obtain ⟨m, hm⟩ := k0; exact DataW.trod_lt m _ _ _ hm
  have k1 := h1
  have lt1 : ∀ x ∈ p1, x.block < W.heap.size := by obtain ⟨m, hm⟩ := k1; exact DataW.trod_lt m _ _ _ hm
  have w0 : IsInt .i64 v0 := open_isInt Try.underlying3 (hval 0 3 v0 rfl rfl) h0
  have w1 : IsRows .u32 4294967296 1048576 W v1 := open_isRows wf_u32 Try.underlying30 Try.underlying22 Try.underlying28 (by kernel_rfl) (by kernel_rfl) (hval 1 30 v1 rfl rfl) h1 (fun elems spare hd => by subst hd; exact bulk_rows (spare := spare) (Nat.le_trans (bulk_in (by simp)) hb))
  clear hA0 hval0
  refine (walk_RingMany v0 v1 W w0 w1).mono fun e W' ⟨he, old⟩ => ?_
  subst he
  have bel : Below W.heap.size W W' := old
  exact ⟨_, rfl, _, _, _, [], _, [], hW', trodAll_mk1 (shut_bool Try.underlying4 _), (trodAll_cons_mk (Below.trod laidOut (by kernel_rfl) (of_decide_eq_true (by kernel_rfl)) k0 bel lt0) (trodAll_cons_mk (Below.trod laidOut (by kernel_rfl) (of_decide_eq_true (by kernel_rfl)) k1 bel lt1) trodAll_mk0)), rfl, bel.frame _, fun h => by cases h⟩

theorem over : Rows.ringManyUptoRow.holds Try.pinned (Rows.OpenSpec.upto Rows.ringManySpec) :=
  OpenClaim.holds_of_cond 4 Try.f4 rfl rfl rfl rfl rfl rfl rfl ⟨rfl, rfl, rfl, rfl, rfl⟩ rfl rfl rfl rfl rfl (by kernel_rfl) Try.func4 (by kernel_rfl)
    (of_decide_eq_true (by kernel_rfl)) (by unfold Func.isWrapper; first | (rw [if_pos (by decide +kernel)]; kernel_rfl) | (rw [if_neg (by decide +kernel)]; exact ⟨rfl, rfl⟩))
    (fun os started H enc _ F => lifted os started H enc F)

end Go.Proofs.Ytooilnpghcdjiaa.ringMany

namespace Go.Proofs.Ytooilnpghcdjiaa
theorem RingManyUpto_holds : Rows.RingManyUptoSaid := ringMany.over
#print axioms RingManyUpto_holds
end Go.Proofs.Ytooilnpghcdjiaa
