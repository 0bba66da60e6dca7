/-
  stream.Vector and the document's: a seed's stream as numbers.
-/
import Derived.Test.YtjbpnhibgafdmaaDoorBytes
namespace Go.Proofs.YtjbpnhibgafdmaaDoor
open Go.RowKit Cha
set_option linter.unusedVariables false

/-- A part of a slice. -/
theorem run_sub {P : Program} {t e : TypeId} (hu : P.underlying t = some (.slice e)) (hi : (P.info? e).map (·.size) = some 1) (g n cap lo hi' : Nat) (h1 : lo ≤ hi') (h2 : hi' ≤ cap) (hlt : lo < cap) {x y : Int} (hx : x = lo) (hy : y = hi') (w : World) :
    (Instr.sliceAt t (.slice (some ⟨g, 0, none⟩) n cap) (some (.int .i64 x)) (some (.int .i64 y)) none).run P w = .ok (.slice (some ⟨g, lo, none⟩) (hi' - lo) (cap - lo)) w := by
  subst hx hy
  have he : P.elem t = e := by simp [Program.elem, hu]
  have hu' : P.underlying t = some (.slice (P.elem t)) := by rw [he]; exact hu
  cases hq : P.info? e with
  | none => simp [hq] at hi
  | some inf =>
    have hsz : inf.size = 1 := by simpa [hq] using hi
    have hne : ¬ cap = lo := by omega
    rw [run_sliceAt_slice w t _ _ _ _ hu', run_slice_lh w t _ n cap hu' .i64 .i64 lo hi' (by omega) (by omega) (by omega), he]
    simp [sizeOf, typeInfo, hq, hsz, sliced, hne, go_sem, Addr.add_lit]

theorem Tryd.infoU32 : (Tryd.prog.info? 41).map (fun i => (i.zero, i.size, i.bytes)) = some (some (.int .u32 0), 1, 4) := by kernel_rfl
theorem make_words (n : Nat) (hn : n ≤ 1073741824) : ∀ w : World, (Instr.makeSlice 24 (.int .i64 (n : Int)) (.int .i64 (n : Int))).run Tryd.prog w = .ok (.slice (some ⟨w.heap.size, 0, none⟩) n n) (w.alloc (.cells (nums .u32 (List.replicate n 0)).toArray 41)) :=
  make_nums Tryd.underlying24 Tryd.infoU32 n (by omega) (by omega)

/-- The blocks of Vector: the answer and the bytes. -/
structure VB (w : World) (v b : Nat) (out bs : List Nat) (wr : World) : Prop where
  o : Row wr v 41 (nums .u32 out)
  b : Row wr b 5 (nums .u8 bs)
  old : Old w wr
theorem VB.mono {w wr w' : World} {v b : Nat} {out bs : List Nat} (h : VB w v b out bs wr) (o : Old wr w') : VB w v b out bs w' := ⟨h.o.mono o, h.b.mono o, h.old.trans o⟩
theorem VB.put {w wr : World} {v b : Nat} {out bs : List Nat} (h : VB w v b out bs wr) (hv : w.heap.size ≤ v) (hvb : v ≠ b) (i x : Nat) : VB w v b (out.set i x) bs (wr.setCell ⟨v, i, none⟩ (.int .u32 (x : Nat))) :=
  ⟨by rw [← nums_set]; exact h.o.set _ _, h.b.grown (grown_set _ _ _ _) (Ne.symm hvb), h.old.grown (grown_set _ _ _ _) hv⟩

theorem svec_eq (s : List Nat) (t m : Nat) : partF m (fun i => le (sbytes s t (4 * m)) (4 * i)) m = svec s t m := partF_all _ _
theorem kept_in (n m : Nat) (h : n ≤ m) : kept (n : Int) m = n := by unfold kept; omega

theorem BytesAt (s : List Nat) (hl : s.length = 32) (hb : ∀ x ∈ s, x < 256) (t : Nat) (ht : t < 4294967296) (k : Nat) (hk : k ≤ 65536) (z : Int) (hz : z = k) (w : World) (q : QTab w) :
    Calls Tryd.prog 37 #[.agg (nums .u8 s).toArray, .int .u32 (t : Nat), .int .i64 z] w fun e w' =>
      ∃ g, w.heap.size ≤ g ∧ e = .returned (.slice (some ⟨g, 0, none⟩) k k) ∧ Row w' g 5 (nums .u8 (sbytes s t k)) ∧ Old w w' := by
  have := Bytes_any s hl hb t ht z w q
  rw [hz, kept_in k 65536 hk] at this
  rw [hz]
  exact this
theorem refBytesAt (s : List Nat) (hl : s.length = 32) (hb : ∀ x ∈ s, x < 256) (t : Nat) (ht : t < 4294967296) (k : Nat) (hk : k ≤ 65536) (z : Int) (hz : z = k) (w : World) :
    Calls Tryd.prog 40 #[.agg (nums .u8 s).toArray, .int .u32 (t : Nat), .int .i64 z] w fun e w' =>
      ∃ g, w.heap.size ≤ g ∧ e = .returned (.slice (some ⟨g, 0, none⟩) k k) ∧ Row w' g 5 (nums .u8 (sbytes s t k)) ∧ Old w w' := by
  have := refBytes_any s hl hb t ht z w
  rw [hz, kept_in k 65536 hk] at this
  rw [hz]
  exact this

set_option maxRecDepth 100000 in
set_option maxHeartbeats 2000000 in
theorem Vector_any (s : List Nat) (hl : s.length = 32) (hb : ∀ x ∈ s, x < 256) (t : Nat) (ht : t < 4294967296) (n : Int) (w : World) (q : QTab w) :
    Calls Tryd.prog 23 #[.agg (nums .u8 s).toArray, .int .u32 (t : Nat), .int .i64 n] w fun e w' =>
      ∃ g, w.heap.size ≤ g ∧ e = .returned (.slice (some ⟨g, 0, none⟩) (kept n 256) (kept n 256)) ∧ Row w' g 41 (nums .u32 (svec s t (kept n 256))) ∧ Old w w' := by
  have HQ := hide q
  have HI : Hid ((Tryd.prog.info? 32).map (·.size) = some (nums .u8 s).length) := info_k hl
  have C1 := hide (within_any n 256)
  have km := kept_le n 256
  revert C1 km
  generalize kept n 256 = m
  intro C1 km
  have C2 := hide (BytesAt s hl hb t ht (4 * m) (by omega) (4 * (m : Int)) (by omega))
  have hmk := make_words m (by omega)
  have K1 : Hid (∀ o, Row ((w.alloc (.cells (nums .u8 s).toArray 32)).alloc o) w.heap.size 32 (nums .u8 s)) := fun o => (Row.new w _ _).mono (Old.of_alloc _ _)
  have K2 : Hid (Row ((w.alloc (.cells (nums .u8 s).toArray 32)).alloc (.cells (nums .u32 (List.replicate m 0)).toArray 41)) (w.heap.size + 1) 41 (nums .u32 (List.replicate m 0))) := by
    have := Row.new (w.alloc (.cells (nums .u8 s).toArray 32)) 41 (nums .u32 (List.replicate m 0))
    rw [size_alloc] at this
    exact this
  have O2 : Hid (Old w ((w.alloc (.cells (nums .u8 s).toArray 32)).alloc (.cells (nums .u32 (List.replicate m 0)).toArray 41))) := (Old.of_alloc _ _).alloc _
  have BS : Hid (∀ i, at_ (sbytes s t (4 * m)) i < 256) := fun i => at8_lt (sbytes_lt _ _ _) i
  have BL := hide (sbytes_length s t (4 * m))
  have SE := hide (svec_eq s t m)
  revert C2 BS BL SE
  generalize sbytes s t (4 * m) = bs
  intro C2 BS BL SE
  clear q hl hb
  go_enter Tryd.func23, Tryd.ntmps23
  go_wp2_with fail
  refine (C1.out _).mono ?_
  rintro e w1 ⟨rfl, rfl⟩
  go_wp2_with (refine wp_load_whole rfl 32 _ rfl w.heap.size rfl (K1.out _) Tryd.underlying32 rfl HI.out ?_)
  refine (C2.out _ (HQ.out.mono O2.out)).mono ?_
  rintro e w2 ⟨g, hg, rfl, RB, o2⟩
  have X2 : VB w (w.heap.size + 1) g (partF m (fun i => le bs (4 * i)) 0) bs w2 := ⟨by rw [partF_zero]; exact K2.out.mono o2, RB, O2.out.trans o2⟩
  have hg2 : w.heap.size + 1 ≠ g := by
    have := K2.out.lt
    omega
  clear hmk C1 C2 K1 K2 O2 o2 RB hg HQ
  go_wp2_with fail
  go_loopw [21] (fun vi wr => ∃ k : Nat, k ≤ m ∧ vi = .int .i64 (k : Nat) ∧ VB w (w.heap.size + 1) g (partF m (fun i => le bs (4 * i)) k) bs wr) (fun vi _ => (m - intOf vi).toNat)
  case atStart => exact ⟨0, by omega, rfl, X2⟩
  case round =>
    clear X2
    obtain ⟨k, hk, rfl, X⟩ := hrel
    by_cases hkm : k = m
    · subst hkm
      go_wp2
      go_ret
      exact ⟨w.heap.size + 1, by omega, rfl, by rw [← SE.out]; exact X.o, X.old⟩
    · have hkl : k < m := by omega
      have hki : (0 : Int) ≤ k := by omega
      have hki2 : (k : Int) < m := by omega
      have hsl := run_sub (P := Tryd.prog) Tryd.underlying67 size_u8 g (4 * m) (4 * m) (4 * k) (4 * k + 4) (by omega) (by omega) (by omega) (x := 4 * (k : Int)) (y := 4 * ((k : Int) + 1)) (by omega) (by omega)
      rw [show 4 * k + 4 - 4 * k = 4 by omega] at hsl
      go_wp2_with fail
      refine (streamNumber_any g (4 * k) _ (at_ bs (4 * k)) (at_ bs (4 * k + 1)) (at_ bs (4 * k + 2)) (at_ bs (4 * k + 3)) (BS.out _) (BS.out _) (BS.out _) (BS.out _) _ (X.b.byte (by rw [BL.out]; omega)) (X.b.byte (by rw [BL.out]; omega)) (X.b.byte (by rw [BL.out]; omega)) (X.b.byte (by rw [BL.out]; omega))).mono ?_
      rintro e w3 ⟨rfl, o3⟩
      have X3 := X.mono o3
      clear X o3 hsl
      have hcc := X3.o.some (i := k) (by rw [partF_length]; exact hkl)
      have hff := X3.o.free k
      go_wp2
      go_roundw
      case rel =>
        refine ⟨k + 1, by omega, by go_num, ?_⟩
        rw [← partF_step _ _ k hkl]
        exact X3.put (by omega) hg2 k _
      case measure => simp [intOf]; omega
end Go.Proofs.YtjbpnhibgafdmaaDoor
