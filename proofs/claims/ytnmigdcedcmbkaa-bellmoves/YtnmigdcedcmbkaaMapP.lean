/-
  A map from numbers to pointers, as a list of who and which block.
-/
import Derived.Test.YtnmigdcedcmbkaaProg
import Derived.Test.YtnmigdcedcmbkaaMem
import Derived.Test.YtnmigdcedcmbkaaPlanN
import Derived.Maps.OwnSet
namespace Go.Proofs.Ytnmigdcedcmbkaa
open Go.RowKit Go.Maps Pn
set_option linter.unusedVariables false

/-- A pointer, told by its block. -/
def ptrR : Value → Option (DataW Unit × List MemPlace)
  | .pointer none => some (.nil, [])
  | .pointer (some ⟨g, 0, none⟩) => some (.lit (.int .i64 (g : Int)), [])
  | _ => none
theorem ptrR_nil {v : Value} {ps : List MemPlace} (h : ptrR v = some (.nil, ps)) : v = .pointer none := by
  unfold ptrR at h
  split at h
  · rfl
  · cases h
  · cases h
theorem ptrR_lit {v : Value} {ps : List MemPlace} {g : Nat} (h : ptrR v = some (.lit (.int .i64 (g : Int)), ps)) : v = .pointer (some ⟨g, 0, none⟩) := by
  unfold ptrR at h
  split at h
  · cases h
  · simp only [Option.some.injEq, Prod.mk.injEq, DataW.lit.injEq, Lit.int.injEq, true_and] at h
    rename_i g'
    obtain rfl : g' = g := by have := h.1; omega
    rfl
  · cases h
def lookP (ms : List (Int × Nat)) (who : Int) : Option Nat := (ms.find? fun x => decide (x.1 = who)).map (·.2)
theorem lookP_cons (x : Int × Nat) (ms : List (Int × Nat)) (who : Int) : lookP (x :: ms) who = if x.1 = who then some x.2 else lookP ms who := by
  unfold lookP
  rw [List.find?_cons]
  by_cases h : x.1 = who
  · rw [if_pos h]; simp [h]
  · rw [if_neg h]; simp [h]
theorem lookP_drop (ms : List (Int × Nat)) (d who : Int) : lookP (ms.filter fun x => decide (x.1 ≠ d)) who = if who = d then none else lookP ms who := by
  induction ms with
  | nil => simp [lookP]
  | cons x r ih =>
    rw [List.filter_cons]
    by_cases h : x.1 = d
    · rw [if_neg (by simp [h]), ih, lookP_cons]
      by_cases e : who = d
      · rw [if_pos e, if_pos e]
      · rw [if_neg e, if_neg e, if_neg (fun e2 => e (by rw [← e2, h]))]
    · rw [if_pos (by simp [h]), lookP_cons, lookP_cons, ih]
      by_cases e : who = d
      · rw [if_pos e, if_pos e, if_neg (fun e2 => h (e2.trans e))]
      · rw [if_neg e, if_neg e]
theorem drop_length (ms : List (Int × Nat)) (who : Int) (h : (ms.map (·.1)).Nodup) : (ms.filter fun x => decide (x.1 ≠ who)).length + (if (lookP ms who).isSome = true then 1 else 0) = ms.length := by
  induction ms with
  | nil => rfl
  | cons x r ih =>
    rw [List.map_cons, List.nodup_cons] at h
    rw [List.filter_cons, lookP_cons]
    by_cases hx : x.1 = who
    · have hf : r.filter (fun x => decide (x.1 ≠ who)) = r := by
        rw [List.filter_eq_self]
        intro y hy
        simp only [decide_eq_true_eq]
        exact fun e2 => h.1 (List.mem_map.2 ⟨y, hy, e2.trans hx.symm⟩)
      rw [if_neg (by simp [hx]), if_pos hx, hf]
      rfl
    · rw [if_pos (by simp [hx]), if_neg hx, List.length_cons, List.length_cons]
      have := ih h.2
      omega
theorem wf64 {z : Int} (h : B64 z) : (Lit.int .i64 z).wf = true := by
  unfold B64 at h
  exact WalkArith.wf_i64 (by omega)

/-- What is there at this number. -/
def asD : Option Nat → DataW Unit
  | none => .nil
  | some g => .lit (.int .i64 (g : Int))
/-- The map's block b holds these. -/
def MapP (w : World) (b : Nat) (ms : List (Int × Nat)) : Prop := ∃ D : DataW Unit, w.ownsMap Try.prog 3 ptrR b (Maps.size D) D ∧ Maps.size D = ms.length ∧ (ms.map (·.1)).Nodup ∧
  ∀ who : Int, D.atKey (.int .i64 who) .nil = asD (lookP ms who) ∧ Maps.has D (.int .i64 who) = (lookP ms who).isSome
theorem key_law : Keyed Try.prog 3 := int_keyed Try.underlying3
theorem own_size {w : World} {b n : Nat} {D : DataW Unit} (h : w.ownsMap Try.prog 3 ptrR b n D) : w.ownsMap Try.prog 3 ptrR b (Maps.size D) D := by
  obtain ⟨es, clock, hb, F, hs, hD⟩ := h
  refine ⟨es, clock, hb, F, ?_, hD⟩
  rw [hD]
  simp [Maps.size, length_sorted]
theorem MapP.stay {w w' : World} {b : Nat} {ms : List (Int × Nat)} (h : MapP w b ms) (hb : w'.heap[b]? = w.heap[b]?) : MapP w' b ms := by
  obtain ⟨D, ⟨es, clock, h0, F, hs, hD⟩, h1, h2, h3⟩ := h
  exact ⟨D, ⟨es, clock, hb.trans h0, F, hs, hD⟩, h1, h2, h3⟩
theorem MapP.lt {w : World} {b : Nat} {ms : List (Int × Nat)} (h : MapP w b ms) : b < w.heap.size := by
  obtain ⟨D, h0, _⟩ := h
  exact h0.lt
theorem MapP.made (w : World) : MapP (w.alloc (.map #[] 0)) w.heap.size [] :=
  ⟨.map [], World.ownsMap_made w _ _ _, rfl, by simp, fun who => ⟨rfl, rfl⟩⟩
section
variable {w : World} {b : Nat} {ms : List (Int × Nat)} {t e : TypeId}
/-- 'v, ok := m[who]'. -/
theorem MapP.look (h : MapP w b ms) (ht : Try.prog.underlying t = some (.map 3 e)) (hz : (zeroValue e).run Try.prog w = .ok (.pointer none) w) {who : Int} (hw : B64 who) :
    (Instr.lookup t (.map (some b)) (.int .i64 who) true).run Try.prog w = .ok (.tuple #[.pointer ((lookP ms who).map fun g => (⟨g, 0, none⟩ : Addr)), .bool (lookP ms who).isSome]) w := by
  obtain ⟨D, h0, _, _, h3⟩ := h
  obtain ⟨v, ps, hr, hv⟩ := h0.look_ok key_law ht hz (zd := .nil) (zp := []) rfl (keyOf_int_mk Try.underlying3 (wf64 hw))
  obtain ⟨h4, h5⟩ := h3 who
  rw [hr, h5]
  rw [h4] at hv
  cases hl : lookP ms who with
  | none =>
    rw [hl] at hv
    rw [ptrR_nil hv]
    rfl
  | some g =>
    rw [hl] at hv
    rw [ptrR_lit hv]
    rfl
/-- 'm[who] = p', where who is not there. -/
theorem MapP.store (h : MapP w b ms) (ht : Try.prog.underlying t = some (.map 3 e)) {who : Int} (hw : B64 who) (hn : lookP ms who = none) (hl : ms.length ≤ 100000) (g : Nat) :
    ∃ w', (Instr.mapUpdate t (.map (some b)) (.int .i64 who) (.pointer (some ⟨g, 0, none⟩))).run Try.prog w = .ok () w' ∧ MapP w' b ((who, g) :: ms) ∧ w.grownBy w' (some b) := by
  obtain ⟨D, h0, h1, h2, h3⟩ := h
  have hT := h0.tidy key_law
  obtain ⟨w', hr, ho, hm⟩ := h0.store key_law ht (by rw [h1]; unfold maxLen; omega) (keyOf_int_mk Try.underlying3 (wf64 hw)) (val := .pointer (some ⟨g, 0, none⟩)) (d := .lit (.int .i64 (g : Int))) (ps := []) rfl
  refine ⟨w', hr, ⟨_, own_size ho, ?_, ?_, fun z => ?_⟩, hm.grown⟩
  · rw [size_put hT, (h3 who).2, hn, h1]
    rfl
  · rw [List.map_cons, List.nodup_cons]
    refine ⟨fun hi => ?_, h2⟩
    obtain ⟨x, hx, hxe⟩ := List.mem_map.1 hi
    unfold lookP at hn
    rw [Option.map_eq_none_iff, List.find?_eq_none] at hn
    exact hn x hx (by simpa using hxe)
  · rw [lookP_cons]
    by_cases hz : z = who
    · subst hz
      rw [if_pos rfl, atKey_put_same (k := .int .i64 z) hT.isMap True.intro, has_put_same (k := .int .i64 z) hT.isMap True.intro]
      exact ⟨rfl, rfl⟩
    · rw [if_neg (fun e2 => hz e2.symm), atKey_put_other (by simpa using hz), has_put_other (by simpa using hz)]
      exact h3 z
/-- 'delete(m, who)'. -/
theorem MapP.drop (h : MapP w b ms) (ht : Try.prog.underlying t = some (.map 3 e)) {who : Int} (hw : B64 who) (ty : TypeId) :
    ∃ w', (Builtin.delete_ #[t, 3] ty #[.map (some b), .int .i64 who]).run Try.prog w = .ok (.tuple #[]) w' ∧ MapP w' b (ms.filter fun x => decide (x.1 ≠ who)) ∧ w.grownBy w' (some b) := by
  obtain ⟨D, h0, h1, h2, h3⟩ := h
  have hT := h0.tidy key_law
  obtain ⟨w', hr, ho, hm⟩ := h0.drop key_law ht (keyOf_int_mk Try.underlying3 (wf64 hw)) ty
  refine ⟨w', hr, ⟨_, own_size ho, ?_, h2.sublist (List.filter_sublist.map _), fun z => ?_⟩, hm.grown⟩
  · have hs := size_del (k := .int .i64 who) hT
    rw [(h3 who).2, h1] at hs
    have := drop_length ms who h2
    omega
  · rw [lookP_drop]
    by_cases hz : z = who
    · subst hz
      rw [if_pos rfl, atKey_del_same, has_del_same]
      exact ⟨rfl, rfl⟩
    · rw [if_neg hz, atKey_del_other (by simpa using hz), has_del_other (by simpa using hz)]
      exact h3 z
end
end Go.Proofs.Ytnmigdcedcmbkaa
