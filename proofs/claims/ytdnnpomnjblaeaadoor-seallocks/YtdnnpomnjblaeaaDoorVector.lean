/-
  stream.Vector and the document's: a seed's stream as numbers.
-/
import Derived.Test.YtdnnpomnjblaeaaDoorBytes
namespace Go.Proofs.YtdnnpomnjblaeaaDoor
open Go.RowKit Cha
set_option linter.unusedVariables false

/-- A part of a slice. -/
theorem run_sub {P : Program} {t e : TypeId} (hu : P.underlying t = some (.slice e)) (hi : (P.info? e).map (·.size) = some 1) (g n cap lo hi' : Nat) (h1 : lo ≤ hi') (h2 : hi' ≤ cap) (hlt : lo < cap) {x y : Int} (hx : x = lo) (hy : y = hi') (w : World) :
    (Instr.sliceAt t (.slice (some ⟨g, 0, none⟩) n cap) (some (.int .i64 x)) (some (.int .i64 y)) none).run P w = .ok (.slice (some ⟨g, lo, none⟩) (hi' - lo) (cap - lo)) w := by
  subst hx hy
  have he : P.elem t = e := by simp [Program.elem, hu]
  have hu' : P.underlying t = some (.slice (P.elem t)) := by rw [he]; exact hu
  cases hq : P.info? e with
  | none => simp [hq] at hi
  | some inf =>
    have hsz : inf.size = 1 := by simpa [hq] using hi
    have hne : ¬ cap = lo := by omega
    rw [run_sliceAt_slice w t _ _ _ _ hu', run_slice_lh w t _ n cap hu' .i64 .i64 lo hi' (by omega) (by omega) (by omega), he]
    simp [sizeOf, typeInfo, hq, hsz, sliced, hne, go_sem, Addr.add_lit]



/-- The blocks of Vector: the answer and the bytes. -/
structure VB (w : World) (v b : Nat) (out bs : List Nat) (wr : World) : Prop where
  o : Row wr v 50 (nums .u32 out)
  b : Row wr b 5 (nums .u8 bs)
  old : Old w wr
theorem VB.mono {w wr w' : World} {v b : Nat} {out bs : List Nat} (h : VB w v b out bs wr) (o : Old wr w') : VB w v b out bs w' := ⟨h.o.mono o, h.b.mono o, h.old.trans o⟩
theorem VB.put {w wr : World} {v b : Nat} {out bs : List Nat} (h : VB w v b out bs wr) (hv : w.heap.size ≤ v) (hvb : v ≠ b) (i x : Nat) : VB w v b (out.set i x) bs (wr.setCell ⟨v, i, none⟩ (.int .u32 (x : Nat))) :=
  ⟨by rw [← nums_set]; exact h.o.set _ _, h.b.grown (grown_set _ _ _ _) (Ne.symm hvb), h.old.grown (grown_set _ _ _ _) hv⟩

theorem svec_eq (s : List Nat) (t m : Nat) : partF m (fun i => le (sbytes s t (4 * m)) (4 * i)) m = svec s t m := partF_all _ _
theorem kept_in (n m : Nat) (h : n ≤ m) : kept (n : Int) m = n := by unfold kept; omega

theorem BytesAt (s : List Nat) (hl : s.length = 32) (hb : ∀ x ∈ s, x < 256) (t : Nat) (ht : t < 4294967296) (k : Nat) (hk : k ≤ 65536) (z : Int) (hz : z = k) (w : World) (q : QTab w) :
    Calls Tryd.prog 28 #[.agg (nums .u8 s).toArray, .int .u32 (t : Nat), .int .i64 z] w fun e w' =>
      ∃ g, w.heap.size ≤ g ∧ e = .returned (.slice (some ⟨g, 0, none⟩) k k) ∧ Row w' g 5 (nums .u8 (sbytes s t k)) ∧ Old w w' := by
  have := Bytes_any s hl hb t ht z w q
  rw [hz, kept_in k 65536 hk] at this
  rw [hz]
  exact this
theorem refBytesAt (s : List Nat) (hl : s.length = 32) (hb : ∀ x ∈ s, x < 256) (t : Nat) (ht : t < 4294967296) (k : Nat) (hk : k ≤ 65536) (z : Int) (hz : z = k) (w : World) :
    Calls Tryd.prog 32 #[.agg (nums .u8 s).toArray, .int .u32 (t : Nat), .int .i64 z] w fun e w' =>
      ∃ g, w.heap.size ≤ g ∧ e = .returned (.slice (some ⟨g, 0, none⟩) k k) ∧ Row w' g 5 (nums .u8 (sbytes s t k)) ∧ Old w w' := by
  have := refBytes_any s hl hb t ht z w
  rw [hz, kept_in k 65536 hk] at this
  rw [hz]
  exact this

end Go.Proofs.YtdnnpomnjblaeaaDoor