/-
  The landed bell's list of moments: Push and Pop; so container/heap's calls are known over it.
-/
import Derived.Test.YtnmigdcedcmbkaaBellS
import Derived.Laws.AppendOwnNone
import Derived.Maps.AppendAt
namespace Go.Proofs.Ytnmigdcedcmbkaa
open Go.RowKit Bl Hp
set_option linter.unusedVariables false

theorem hpK (N : Nat) (B : Nat → Prop) (bb gm : Nat) (hm : Option Obj) : HpK (Prod.snd : El → Mk) bb (HpSt N B bb gm hm) (Fr N B) where
  refl := Fr.refl N B
  trans := Fr.trans
  drew := fun n h => ⟨h.drewN n, Fr.drewN N B _ n⟩
  cell := fun h => by
    obtain ⟨a, cap, e⟩ := h.at
    exact ⟨a, cap, e, h.few⟩
  lenK := len19
  lessK := fun a cap i j h hc hi hj => less19 h a cap i j hc hi hj
  swapK := fun a cap i j h hc hi hj => swap19 h a cap i j hc hi hj

section
variable {ops : Array Oper} {rest : List Oper} {o : Oper} {a : Act} {w : World} {Q : Exit → Act → World → Prop}
/-- One pointer more. -/
theorem wp_appendPt (hgd : o.guard = none) (s x : Operand) (ho : o.op = .call { callee := .builtin .append, args := #[s, x], argTypes := #[46, 46] })
    (v : Value) (xs : List El) (hs : a.eval s = v) (hown : w.ownsRow 0 51 1 v xs.length (ptrs xs)) (g c : Nat) (y : El) (hx : a.eval x = .slice (some ⟨g, 0, none⟩) 1 c) (hy : Row w g 51 [.pointer (some ⟨y.1, 0, none⟩)])
    (hn : xs.length < 1000000)
    (h : ∀ v' w', w'.ownsRow 0 51 1 v' (xs ++ [y]).length (ptrs (xs ++ [y])) → w.grownBy w' v.ownBlock → (∀ q, v'.ownBlock = some q → v.ownBlock = some q ∨ w.heap.size ≤ q) → wpList Try.prog ops Q rest (a.put o.dst v') w') : wpList Try.prog ops Q (o :: rest) a w := by
  obtain ⟨i0, g1, g2, g3, g4⟩ := info_parts (P := Try.prog) (e := 51) (show (Try.prog.info? 51).map (fun i => (i.zero, i.size, i.bytes)) = some (some (.pointer none), 1, 8) by kernel_rfl)
  refine wpList_append_own_at w hgd s x 46 ho 0 51 i0 (.pointer none) 1 8 Try.underlying46 g1 g2 g3 g4 rfl (by omega) v xs.length (ptrs xs) hs hown ⟨g, 0, none⟩ 1 c [.pointer (some ⟨y.1, 0, none⟩)] hx rfl ?_ ?_ ?_ ?_ (Nat.zero_le _) ?_
  · intro j u hj
    rw [Addr.add_lit, Nat.zero_add]
    exact hy.cell hj
  · intro u hu
    simp at hu
    subst hu; rfl
  · show xs.length + 1 ≤ 9223372036854775807
    omega
  · omega
  · intro v' w' h5 h6 _ h7
    refine h v' w' ?_ h6 (fun q hq => by rcases h7 with e | e <;> rw [e] at hq; exact .inl hq; exact .inr (by cases hq; exact Nat.le_refl _))
    rw [List.length_append]
    simpa [ptrs] using h5
end

/-- A moment of the bell's own that is not in its list yet, as an interface's value. -/
def Ready19 (N : Nat) (B : Nat → Prop) (bb gm : Nat) (x : El) (v : Value) (xs : List El) (w : World) : Prop :=
  v = .iface 51 (.pointer (some ⟨x.1, 0, none⟩)) ∧ (∃ p : Int, Row w x.1 53 [.int .i64 x.2.1, .int .i64 x.2.2, .int .i64 p]) ∧ (B x.1 ∨ N ≤ x.1) ∧ x.1 ≠ bb ∧ x.1 ≠ gm ∧ (∀ y ∈ xs, y.1 ≠ x.1) ∧ xs.length + 1 ≤ 100000 ∧
    ∀ a n c, w.cell? ⟨bb, 0, none⟩ = some (.slice (some a) n c) → x.1 ≠ a.block
section
variable {N : Nat} {B : Nat → Prop} {bb gm : Nat} {hm : Option Obj} {xs : List El} {w : World}
theorem own_some {w : World} {t : TypeId} {v : Value} {n : Nat} {vs : List Value} (h : w.ownsRow 0 t 1 v n vs) (hn : 0 < n) : ∃ g cap, v = .slice (some ⟨g, 0, none⟩) n cap := by
  obtain ⟨_, h2⟩ := h
  rcases h2 with ⟨_, e⟩ | ⟨g, cap, cur, e, _⟩
  · omega
  · exact ⟨g, cap, e⟩
set_option maxHeartbeats 2000000 in
theorem push19 (x : El) (v : Value) (h : HpSt N B bb gm hm xs w) (r : Ready19 N B bb gm x v xs w) :
    Calls Try.prog 41 #[.pointer (some ⟨bb, 0, none⟩), v] w fun e w' => e = .returned (.tuple #[]) ∧ HpSt N B bb gm hm (xs ++ [x]) w' ∧ Fr N B w w' := by
  obtain ⟨rfl, ⟨p, rx⟩, r1, r2, r3, r4, r5, r6⟩ := r
  obtain ⟨va, rb, ow, hq⟩ := h.arr
  obtain ⟨a, cap, hc⟩ := h.at
  have e0 := rb.cell (i := 0) rfl
  rw [hc] at e0
  cases e0
  have cb1 := rb.free 0
  have c3 := rx.cell (i := 2) rfl
  have f3 := rx.free 2
  have ta : ∀ (p : Value) (w' : World), (Instr.typeAssert (.iface 51 p) 20 51 false).run Try.prog w' = .ok p w' := fun p w' => by kernel_rfl
  obtain ⟨W1, hW1⟩ : ∃ W1, W1 = w.setCell ⟨x.1, 2, none⟩ (.int .i64 (xs.length : Int)) := ⟨_, rfl⟩
  have g1 : w.grownBy W1 (some x.1) := by rw [hW1]; exact grown_set _ _ _ _
  have rb1 : Row W1 bb 49 [.slice a xs.length cap, .map (some gm)] := rb.grown g1 r2.symm
  have cb2 := rb1.cell (i := 0) rfl
  have fb2 := rb1.free 0
  have nq : ∀ q, (Value.slice a xs.length cap).ownBlock = some q → x.1 ≠ q := fun q e => by
    cases a with
    | none => cases e
    | some ad =>
      have := r6 ad _ _ hc
      cases e
      exact this
  have ow1 : W1.ownsRow 0 51 1 (.slice a xs.length cap) xs.length (ptrs xs) := World.ownsRow.kept ow g1 (by
    cases hob : (Value.slice a xs.length cap).ownBlock with
    | none => exact .inl rfl
    | some q => exact .inr (fun e => nq q hob (by cases e; rfl)))
  have O2 := Old.of_alloc W1 (.cells #[.pointer (some ⟨x.1, 0, none⟩)] 51)
  have HY : Row (W1.alloc (.cells #[.pointer (some ⟨x.1, 0, none⟩)] 51)) W1.heap.size 51 [.pointer (some ⟨x.1, 0, none⟩)] := Row.new W1 _ _
  have ow2 : (W1.alloc (.cells #[.pointer (some ⟨x.1, 0, none⟩)] 51)).ownsRow 0 51 1 (.slice a xs.length cap) xs.length (ptrs xs) := World.ownsRow.kept ow1 (grown_old O2 none) (by
    cases hob : (Value.slice a xs.length cap).ownBlock with
    | none => exact .inl rfl
    | some q => exact .inr (by simp))
  have rb2 := rb1.mono O2
  have HLn := hide (show xs.length < 1000000 by omega)
  have hxb := rx.lt
  have hbl := rb.lt
  have hgl : ∀ k y, xs[k]? = some y → Row (W1.alloc (.cells #[.pointer (some ⟨x.1, 0, none⟩)] 51)) y.1 53 (momV y k) := fun k y hk => ((h.each k y hk).grown g1 (fun e => r4 y (List.mem_of_getElem? hk) (by simpa using e))).mono O2
  have hxl : Row (W1.alloc (.cells #[.pointer (some ⟨x.1, 0, none⟩)] 51)) x.1 53 (momV x xs.length) := by
    have : Row W1 x.1 53 (momV x xs.length) := by rw [hW1]; exact rx.set 2 _
    exact this.mono O2
  have hml : (W1.alloc (.cells #[.pointer (some ⟨x.1, 0, none⟩)] 51)).heap[gm]? = hm ∨ ¬ gm < w.heap.size := by
    by_cases hg : gm < w.heap.size
    · left
      rw [O2.block gm (Nat.lt_of_lt_of_le hg g1.size), g1.block gm hg (by simpa using fun e => r3 e.symm)]
      exact h.map
    · exact .inr hg
  have fr1 : Fr N B w (W1.alloc (.cells #[.pointer (some ⟨x.1, 0, none⟩)] 51)) := (Fr.grown g1 (fun q e => by cases e; exact r1) h.new (fun q e m hm => by cases e; rw [hW1]; exact hm.set2 _)).trans (Fr.grown (grown_old O2 none) (fun q e => by cases e) (Nat.le_trans h.new g1.size) (fun q e => by cases e))
  have es : W1.heap.size = w.heap.size := by rw [hW1]; simp
  rw [es] at HY
  have hsz : w.heap.size ≤ (W1.alloc (.cells #[.pointer (some ⟨x.1, 0, none⟩)] 51)).heap.size := Nat.le_trans g1.size O2.size
  subst hW1
  have HH := hide h
  clear es h rb ow rb1 ow1 g1 rx
  revert rb2 ow2 HY hgl hxl hml fr1 hsz O2
  generalize hW2 : ((w.setCell ⟨x.1, 2, none⟩ (.int .i64 (xs.length : Int))).alloc (.cells #[.pointer (some ⟨x.1, 0, none⟩)] 51)) = W2
  intro O2 HY ow2 rb2 hgl hxl hml fr1 hsz
  have EW := hide hW2
  clear hW2 O2
  go_enter Try.func41, Try.ntmps41
  go_wp2_with (first | fail | (rw [EW.out]; refine wp_appendPt rfl _ _ rfl _ xs rfl ow2 w.heap.size 1 x rfl HY HLn.out ?_; rintro v2 w5 ow5 gr loc; obtain ⟨g5, cap5, rfl⟩ : ∃ g5 cap5, v2 = .slice (some ⟨g5, 0, none⟩) (xs.length + 1) cap5 := (by have := own_some ow5 (by simp); simpa using this); have rb5 : Row w5 bb 49 [.slice a xs.length cap, .map (some gm)] := (gr.block bb rb2.lt (fun e => (hq bb e.symm).2.1 rfl)).trans rb2; have cb5 := rb5.cell (i := 0) rfl; have fb5 := rb5.free 0))
  go_end0
  have gr : W2.grownBy w5 (Value.slice a xs.length cap).ownBlock := gr
  have hbb : bb ≠ g5 := fun e => by
    rcases loc g5 rfl with q | q
    · exact (hq g5 q).2.1 e.symm
    · omega
  have keep : ∀ (q : Nat) (t : TypeId) (vs : List Value), q ≠ bb → (∀ q', (Value.slice a xs.length cap).ownBlock = some q' → q ≠ q') → Row W2 q t vs → Row (w5.setCell ⟨bb, 0, none⟩ (.slice (some ⟨g5, 0, none⟩) (xs.length + 1) cap5)) q t vs := fun q t vs n1 n2 r =>
    Row.other (show Row w5 q t vs from (gr.block q r.lt (fun e => n2 q e.symm rfl)).trans r) n1
  have g5o : (B g5 ∨ N ≤ g5) ∧ g5 ≠ gm ∧ ∀ y ∈ xs ++ [x], y.1 ≠ g5 := by
    have hN := HH.out.new
    rcases loc g5 rfl with q | q
    · refine ⟨(hq g5 q).1, (hq g5 q).2.2.1, fun y hy => ?_⟩
      rcases List.mem_append.1 hy with m | m
      · exact (hq g5 q).2.2.2 y m
      · rw [List.mem_singleton.1 m]
        exact nq g5 q
    · refine ⟨.inr (by omega), fun e => ?_, fun y hy e => ?_⟩
      · have := HH.out.mlt
        omega
      · rcases List.mem_append.1 hy with m | m
        · obtain ⟨k, hk, rfl⟩ := List.mem_iff_getElem.1 m
          have := (HH.out.each k _ (List.getElem?_eq_getElem hk)).lt
          omega
        · rw [List.mem_singleton.1 m] at e
          omega
  have hN := HH.out.new
  have sz5 : W2.heap.size ≤ w5.heap.size := gr.size
  have szF : (w5.setCell ⟨bb, 0, none⟩ (.slice (some ⟨g5, 0, none⟩) (xs.length + 1) cap5)).heap.size = w5.heap.size := by simp
  have two := HH.out.two
  refine ⟨rfl, ⟨⟨_, rb5.set 0 _, World.ownsRow.kept ow5 (grown_set _ _ _ _) (.inr (fun e => hbb (by cases e; rfl))), fun q e => ?_⟩, fun k y hk => ?_, fun y hy => ?_, ?_, ?_, two, ?_, by rw [szF]; omega, by rw [szF]; have := HH.out.mlt; omega⟩,
    (fr1.trans (Fr.grown gr (fun q e => (hq q e).1) (Nat.le_trans hN hsz) (fun q e m hm => by obtain ⟨cs, hr⟩ := own_row ow2 e; exact (Mom.not hr (by decide) m hm).elim))).trans (Fr.grown (grown_set w5 bb 0 _) (fun q e => by cases e; exact two.2.1) (by omega) (fun q e m hm => by cases e; exact (Mom.not rb5 (by decide) m hm).elim))⟩
  · cases e
    exact ⟨g5o.1, fun e => hbb e.symm, g5o.2.1, g5o.2.2⟩
  · by_cases hkl : k < xs.length
    · rw [List.getElem?_append_left hkl] at hk
      have m := List.mem_of_getElem? hk
      exact keep y.1 _ _ (HH.out.own y m).2.1 (fun q' e => (hq q' e).2.2.2 y m) (hgl k y hk)
    · have hke : k = xs.length := by
        have := (List.getElem?_eq_some_iff.1 hk).1
        rw [List.length_append, List.length_singleton] at this
        omega
      subst hke
      rw [List.getElem?_append_right (Nat.le_refl _), Nat.sub_self] at hk
      cases hk
      exact keep x.1 _ _ r2 nq hxl
  · rcases List.mem_append.1 hy with m | m
    · exact HH.out.own y m
    · rw [List.mem_singleton.1 m]
      exact ⟨r1, r2, r3⟩
  · rw [List.map_append, List.nodup_append]
    refine ⟨HH.out.apart, by simp, fun p hp q hq2 e => ?_⟩
    obtain ⟨y, hy, rfl⟩ := List.mem_map.1 hp
    simp at hq2
    exact r4 y hy (e.trans hq2)
  · rw [Below.heap_setCell _ _ _ _ (by simpa using fun e => two.1 e.symm)]
    rcases hml with hml | hml
    · rw [gr.block gm (Nat.lt_of_lt_of_le HH.out.mlt hsz) (fun e => (hq gm e.symm).2.2.1 rfl)]
      exact hml
    · exact absurd HH.out.mlt hml
  · rw [List.length_append, List.length_singleton]
    exact r5
end
end Go.Proofs.Ytnmigdcedcmbkaa
