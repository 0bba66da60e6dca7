/-
  The landed bell's list of moments: Pop; so container/heap's calls are known over it.
-/
import Derived.Test.YtnmigdcedcmbkaaBellP
namespace Go.Proofs.Ytnmigdcedcmbkaa
open Go.RowKit Bl Hp
set_option linter.unusedVariables false
def val19 (x : El) : Value := .iface 51 (.pointer (some ⟨x.1, 0, none⟩))
section
variable {N : Nat} {B : Nat → Prop} {bb gm : Nat} {hm : Option Obj} {xs : List El} {w : World}
set_option maxHeartbeats 2000000 in
theorem pop19 (x : El) (h : HpSt N B bb gm hm (xs ++ [x]) w) :
    Calls Try.prog 40 #[.pointer (some ⟨bb, 0, none⟩)] w fun e w' => e = .returned (val19 x) ∧ HpSt N B bb gm hm xs w' ∧ Fr N B w w' := by
  obtain ⟨va, rb, ⟨o1, o⟩, hq⟩ := h.arr
  have ln : (xs ++ [x]).length = xs.length + 1 := by simp
  rw [ln] at o
  rcases o with ⟨_, e⟩ | ⟨g, cap, cur, rfl, o2, o3, o4, o5, o6, o7⟩
  · omega
  have gq := hq g rfl
  have R0 : Row w g 51 cur.toList := by simpa [Row] using o3
  have lcur : cur.size = cap := by simpa using o6
  have cx : cur.toList[xs.length]? = some (.pointer (some ⟨x.1, 0, none⟩)) := by
    have := ptrs_at (xs := xs ++ [x]) (i := xs.length) (x := x) (by simp)
    rw [← o7, List.getElem?_take] at this
    split at this
    · exact this
    · cases this
  have cc := R0.cell cx
  have cf := R0.free xs.length
  have cb := rb.cell (i := 0) rfl
  have R1 := R0.set xs.length (.pointer none)
  have rb1 : Row (w.setCell ⟨g, xs.length, none⟩ (.pointer none)) bb 49 [.slice (some ⟨g, 0, none⟩) (xs.length + 1) cap, .map (some gm)] := rb.other (fun e => gq.2.1 e.symm)
  have cb1 := rb1.cell (i := 0) rfl
  have fb1 := rb1.free 0
  have few := h.few
  rw [ln] at few
  have n0 : (0 : Int) ≤ xs.length := by omega
  have n1 : (xs.length : Int) < (xs.length : Int) + 1 := by omega
  have n2 : (xs.length : Int) ≤ cap := by omega
  obtain ⟨W1, hW1⟩ : ∃ W1, (w.setCell ⟨g, xs.length, none⟩ (.pointer none)) = W1 := ⟨_, rfl⟩
  have g1 : w.grownBy W1 (some g) := by rw [← hW1]; exact grown_set _ _ _ _
  rw [hW1] at cb1 fb1 R1 rb1
  have HH := hide h
  go_enter Try.func40, Try.ntmps40
  go_wp2_with fail
  go_ret
  have hm1 : ∀ y ∈ xs, y ∈ xs ++ [x] := fun y hy => List.mem_append_left _ hy
  have kk : ∀ k y, xs[k]? = some y → (xs ++ [x])[k]? = some y := fun k y hk => by
    rw [List.getElem?_append_left (List.getElem?_eq_some_iff.1 hk).1]
    exact hk
  have siz : (W1.setCell ⟨bb, 0, none⟩ (.slice (some ⟨g, 0, none⟩) xs.length cap)).heap.size = w.heap.size := by rw [← hW1]; simp
  have ht : (cur.toList.set xs.length (.pointer none)).take xs.length = ptrs xs := by
    rw [List.take_set, List.set_eq_of_length_le (by rw [List.length_take]; omega)]
    have := congrArg (List.take xs.length) o7
    rw [List.take_take, show min xs.length ((xs.length + 1) * 1) = xs.length by omega] at this
    rw [this]
    unfold ptrs
    rw [List.map_append, List.take_append_of_le_length (by simp), List.take_of_length_le (by simp)]
  refine ⟨rfl, ⟨⟨_, rb1.set 0 _, ⟨by rw [ptrs_length, Nat.mul_one], .inr ⟨g, cap, _, rfl, Nat.zero_le _, (R1.other gq.2.1), by omega, o5, ?_, ?_⟩⟩, fun q e => ?_⟩, fun k y hk => ?_, fun y hy => HH.out.own y (hm1 y hy), ?_, ?_, HH.out.two, by omega, by rw [siz]; exact HH.out.new, by rw [siz]; exact HH.out.mlt⟩, ?_⟩
  · simp [lcur]
  · rw [Nat.mul_one]
    simpa using ht
  · cases e
    exact ⟨gq.1, gq.2.1, gq.2.2.1, fun y hy => gq.2.2.2 y (hm1 y hy)⟩
  · have m := hm1 y (List.mem_of_getElem? hk)
    refine Row.other ?_ (HH.out.own y m).2.1
    rw [← hW1]
    exact (HH.out.each k y (kk k y hk)).other (gq.2.2.2 y m)
  · have := HH.out.apart
    rw [List.map_append, List.nodup_append] at this
    exact this.1
  · rw [Below.heap_setCell _ _ _ _ (by simpa using fun e => HH.out.two.1 e.symm), g1.block gm HH.out.mlt (by simpa using fun e => gq.2.2.1 e.symm)]
    exact HH.out.map
  · exact (Fr.grown g1 (fun q e => by cases e; exact gq.1) HH.out.new (fun q e m hm => by cases e; exact (Mom.not R0 (by decide) m hm).elim)).trans (Fr.grown (grown_set W1 bb 0 _) (fun q e => by cases e; exact HH.out.two.2.1) (Nat.le_trans HH.out.new g1.size) (fun q e m hm => by cases e; exact (Mom.not rb1 (by decide) m hm).elim))
theorem hpM (N : Nat) (B : Nat → Prop) (bb gm : Nat) (hm : Option Obj) : HpM bb (HpSt N B bb gm hm) (Fr N B) (Ready19 N B bb gm) val19 where
  pushK := fun x v h r => push19 x v h r
  popK := fun x h => pop19 x h
end
end Go.Proofs.Ytnmigdcedcmbkaa
