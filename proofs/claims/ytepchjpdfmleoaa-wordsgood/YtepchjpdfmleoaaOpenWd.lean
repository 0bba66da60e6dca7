/-
  What a walk is told of a word, out of its reading as data.
-/
import Derived.Test.YtepchjpdfmleoaaOpenPl
import Derived.Test.YtepchjpdfmleoaaMgWb
import Derived.Test.YtepchjpdfmleoaaMgWd
import Derived.Deep.SlicePairs
namespace Go.Proofs.Ytepchjpdfmleoaa
open Go.RowKit Go.ChangeShapes Go.WideShapes Go.ChangeAt Go.Deep Cn Pn Wn
set_option linter.unusedVariables false

/-- A word that came in. -/
def IsWord (w : World) (v : Value) : Prop := ∃ (c : Wd) (m : WM), v = .agg (wdc c m).toArray ∧ WordIn w c m ∧ Caps c m
/-- What is told of a card's, a parcel's, an opening's cells. -/
def RCard (q : Card) (z0 z1 z2 : Value) : Prop := (z0 = .int .i64 q.who ∧ z1 = .int .u64 (q.lock : Nat) ∧ z2 = .int .u64 (q.key : Nat)) ∧ B64 q.who ∧ q.lock < 18446744073709551616 ∧ q.key < 18446744073709551616
def RParcel (w : World) (q : Parcel × Option Addr × Nat) (z0 z1 z2 : Value) : Prop := (z0 = (parcelC q).1 ∧ z1 = (parcelC q).2.1 ∧ z2 = (parcelC q).2.2) ∧ B64 q.1.frm ∧ B64 q.1.to ∧ By14 w q.2.1 q.1.data.length q.2.2 q.1.data
def ROpening (w : World) (q : Opening × Option Addr × Nat) (z0 z1 z2 : Value) : Prop := (z0 = (openingC q).1 ∧ z1 = (openingC q).2.1 ∧ z2 = (openingC q).2.2) ∧ B64 q.1.who ∧ (∀ y ∈ q.1.vals, y < 18446744073709551616) ∧ q.1.vals.length ≤ 9223372036854775807 ∧ Rd w q.2.1 (nums .u64 q.1.vals)

section
variable {H : Type} {enc : TypeId × Value → H} {P : Program} {W : World} {base : Nat}
theorem open_tri {α : Type} [Inhabited α] {R : α → Value → Value → Value → Prop} {t e : TypeId} {f0 f1 f2 : Field} {fuel : Nat} {cs : List Value} {y : DataW H × List MemPlace} (ht : P.underlying t = some (.slice e)) (he : P.underlying e = some (.struct #[f0, f1, f2])) (ce : P.cellsOf e = 3)
    (o0 : f0.offset = 0) (o1 : f1.offset = 1) (o2 : f2.offset = 2) (c0 : P.cellsOf f0.type = 1) (c1 : P.cellsOf f1.type = 1) (c2 : P.cellsOf f2.type = 1)
    (one : ∀ (n : Nat) (z0 z1 z2 : Value) y0 y1 y2, DataW.trod enc P W 0 (fun _ => true) true n f0.type [z0] = some y0 → DataW.trod enc P W 0 (fun _ => true) true n f1.type [z1] = some y1 → DataW.trod enc P W 0 (fun _ => true) true n f2.type [z2] = some y2 → ∃ q : α, R q z0 z1 z2)
    (hf : DataW.trod enc P W 0 (fun _ => true) true fuel t cs = some y) :
    ∃ (a : Option Addr) (cap : Nat) (L : List α), cs = [.slice a L.length cap] ∧ L.length ≤ cap ∧ L.length ≤ 9223372036854775807 ∧ ∀ (i : Nat) (q : α), L[i]? = some q → ∃ b off z0 z1 z2, a = some ⟨b, off, none⟩ ∧ W.cell? ⟨b, off + i * 3, none⟩ = some z0 ∧ W.cell? ⟨b, off + i * 3 + 1, none⟩ = some z1 ∧ W.cell? ⟨b, off + i * 3 + 2, none⟩ = some z2 ∧ R q z0 z1 z2 := by
  rcases open_slice ht hf with ⟨hcs, _⟩ | ⟨x, l, c, m, n, D, Pl, hcs, _, hl, hm, hmm, hx', hx⟩
  · exact ⟨none, 0, [], hcs, Nat.le_refl _, by simp, by intro i q hq; simp at hq⟩
  · simp only [if_true] at hmm
    subst hmm
    have each : ∀ i, i < l → ∃ q : α, ∃ z0 z1 z2, W.cell? (x.add (i * 3)) = some z0 ∧ W.cell? (x.add (i * 3 + 1)) = some z1 ∧ W.cell? (x.add (i * 3 + 2)) = some z2 ∧ R q z0 z1 z2 := by
      intro i hi
      obtain ⟨cs', h1, h2⟩ := hx i (by omega)
      rw [ce] at h1
      obtain ⟨_, hlen, hcell⟩ := World.cells?_some h1
      obtain ⟨ys, k, hk, hxy, _, hxl, hg⟩ := DataW.trod_struct he h2
      match ys, hxl, cs', hlen with
      | [y0, y1, y2], _, [z0, z1, z2], _ =>
        have g0 := hg 0 f0 rfl
        have g1 := hg 1 f1 rfl
        have g2 := hg 2 f2 rfl
        simp [o0, o1, o2, c0, c1, c2] at g0 g1 g2
        obtain ⟨q, hq⟩ := one _ z0 z1 z2 _ _ _ g0 g1 g2
        have k0 := hcell 0 (by omega)
        have k1 := hcell 1 (by omega)
        have k2 := hcell 2 (by omega)
        rw [add_add] at k0 k1 k2
        simp at k0 k1 k2
        exact ⟨q, z0, z1, z2, k0, k1, k2, hq⟩
    obtain ⟨Z, hZ⟩ := choose_lt each
    refine ⟨some x, m, (List.range l).map Z, by rw [hcs]; simp, by simpa using hl, by simp; unfold maxLen at hm; omega, ?_⟩
    intro i q hq
    have hi : i < l := by
      have := (List.getElem?_eq_some_iff.1 hq).1
      simpa using this
    have hq' : q = Z i := by
      simp [hi] at hq
      exact hq.symm
    subst hq'
    obtain ⟨s0, _, _, hs0, _⟩ := hZ 0 (by omega)
    have hs := addr_none (by simpa using hs0)
    obtain ⟨b, off, sp⟩ := x
    simp at hs
    subst hs
    obtain ⟨z0, z1, z2, k0, k1, k2, hR⟩ := hZ i hi
    rw [Addr.add_lit] at k0 k1 k2
    exact ⟨b, off, z0, z1, z2, rfl, k0, by rw [Nat.add_assoc]; exact k1, by rw [Nat.add_assoc]; exact k2, hR⟩
theorem one_int {t : TypeId} {n : Nat} {z : Value} {y : DataW H × List MemPlace} (ht : P.underlying t = some (.int .i64)) (h : DataW.trod enc P W 0 (fun _ => true) true n t [z] = some y) : ∃ x : Int, z = .int .i64 x ∧ B64 x := by
  obtain ⟨x, e, _, w⟩ := DataW.trod_int ht h
  simp at e
  exact ⟨x, e, wf_B64 w⟩
theorem one_u64 {t : TypeId} {n : Nat} {z : Value} {y : DataW H × List MemPlace} (ht : P.underlying t = some (.int .u64)) (h : DataW.trod enc P W 0 (fun _ => true) true n t [z] = some y) : ∃ x : Nat, z = .int .u64 (x : Nat) ∧ x < 18446744073709551616 := by
  obtain ⟨x, e, _, w⟩ := DataW.trod_int ht h
  have b := bounds_u64 w
  simp at e
  exact ⟨x.toNat, by rw [e, Int.toNat_of_nonneg (by omega)], by omega⟩
theorem one_nums {k : IntKind} {B : Nat} {t e : TypeId} {n : Nat} {z : Value} {y : DataW H × List MemPlace} (hk : ∀ n, (Lit.int k n).wf = true → 0 ≤ n ∧ n < B) (ht : P.underlying t = some (.slice e)) (he : P.underlying e = some (.int k)) (ce : P.cellsOf e = 1) (h : DataW.trod enc P W 0 (fun _ => true) true n t [z] = some y) :
    ∃ (a : Option Addr) (cap : Nat) (xs : List Nat), z = .slice a xs.length cap ∧ xs.length ≤ cap ∧ xs.length ≤ 9223372036854775807 ∧ (∀ x ∈ xs, x < B) ∧ Rd W a (nums k xs) := by
  rcases open_ints ht he ce h with ⟨hcs, _⟩ | ⟨x, l, c, zs, hcs, _, hl, hm, hz, hx, hcell, hwz⟩
  · simp at hcs
    exact ⟨none, 0, [], hcs, Nat.le_refl _, by simp, by simp, Rd.nil _⟩
  · simp at hcs
    simp only [if_true] at hz
    obtain ⟨xs, h1, h2, h3⟩ := rd_of_ints hk hl hz (fun i hi => hcell i (by omega)) hwz
    exact ⟨some x, c, xs, by rw [hcs, h1], by omega, by rw [h1]; unfold maxLen at hm; omega, h2, h3⟩
theorem one_ints {t e : TypeId} {n : Nat} {z : Value} {y : DataW H × List MemPlace} (ht : P.underlying t = some (.slice e)) (he : P.underlying e = some (.int .i64)) (ce : P.cellsOf e = 1) (h : DataW.trod enc P W 0 (fun _ => true) true n t [z] = some y) :
    ∃ (a : Option Addr) (cap : Nat) (xs : List Int), z = .slice a xs.length cap ∧ xs.length ≤ cap ∧ xs.length ≤ 9223372036854775807 ∧ (∀ x ∈ xs, B64 x) ∧ Rd W a (ints xs) := by
  rcases open_ints ht he ce h with ⟨hcs, _⟩ | ⟨x, l, c, zs, hcs, _, hl, hm, hz, hx, hcell, hwz⟩
  · simp at hcs
    exact ⟨none, 0, [], hcs, Nat.le_refl _, by simp, by simp, Rd.nil _⟩
  · simp at hcs
    simp only [if_true] at hz
    have hll : (zs.take l).length = l := by rw [List.length_take]; omega
    exact ⟨some x, c, zs.take l, by rw [hcs, hll], by omega, by rw [hll]; unfold maxLen at hm; omega, fun z hz' => wf_B64 (hwz z (List.mem_of_mem_take hz')), rd_of_ints64 hl hz (fun i hi => hcell i (by omega))⟩

theorem open_isWord {t : TypeId} {f0 f1 f2 f3 f4 f5 f6 f7 a0 a1 a2 b0 b1 b2 d0 d1 d2 : Field} {e3 e4 e5 e6 e7 eb ev : TypeId} {v : Value} {d : DataW H} {p : List MemPlace} (ht : P.underlying t = some (.struct #[f0, f1, f2, f3, f4, f5, f6, f7])) (ct : P.cellsOf t = 8)
    (oo : f0.offset = 0 ∧ f1.offset = 1 ∧ f2.offset = 2 ∧ f3.offset = 3 ∧ f4.offset = 4 ∧ f5.offset = 5 ∧ f6.offset = 6 ∧ f7.offset = 7)
    (cc : P.cellsOf f0.type = 1 ∧ P.cellsOf f1.type = 1 ∧ P.cellsOf f2.type = 1 ∧ P.cellsOf f3.type = 1 ∧ P.cellsOf f4.type = 1 ∧ P.cellsOf f5.type = 1 ∧ P.cellsOf f6.type = 1 ∧ P.cellsOf f7.type = 1)
    (u0 : P.underlying f0.type = some (.int .i64)) (u1 : P.underlying f1.type = some (.int .i64)) (u2 : P.underlying f2.type = some (.int .i64)) (u3 : P.underlying f3.type = some (.slice e3)) (u4 : P.underlying f4.type = some (.slice e4)) (u5 : P.underlying f5.type = some (.slice e5)) (u6 : P.underlying f6.type = some (.slice e6)) (u7 : P.underlying f7.type = some (.slice e7))
    (x5 : P.underlying e5 = some (.int .u32)) (x6 : P.underlying e6 = some (.int .i64)) (k5 : P.cellsOf e5 = 1) (k6 : P.cellsOf e6 = 1)
    (s3 : P.underlying e3 = some (.struct #[a0, a1, a2])) (n3 : P.cellsOf e3 = 3) (oa : a0.offset = 0 ∧ a1.offset = 1 ∧ a2.offset = 2) (ca : P.cellsOf a0.type = 1 ∧ P.cellsOf a1.type = 1 ∧ P.cellsOf a2.type = 1) (ua0 : P.underlying a0.type = some (.int .i64)) (ua1 : P.underlying a1.type = some (.int .u64)) (ua2 : P.underlying a2.type = some (.int .u64))
    (s4 : P.underlying e4 = some (.struct #[b0, b1, b2])) (n4 : P.cellsOf e4 = 3) (ob : b0.offset = 0 ∧ b1.offset = 1 ∧ b2.offset = 2) (cb : P.cellsOf b0.type = 1 ∧ P.cellsOf b1.type = 1 ∧ P.cellsOf b2.type = 1) (ub0 : P.underlying b0.type = some (.int .i64)) (ub1 : P.underlying b1.type = some (.int .i64)) (ub2 : P.underlying b2.type = some (.slice eb)) (xb : P.underlying eb = some (.int .u8)) (kb : P.cellsOf eb = 1)
    (s7 : P.underlying e7 = some (.struct #[d0, d1, d2])) (n7 : P.cellsOf e7 = 3) (od : d0.offset = 0 ∧ d1.offset = 1 ∧ d2.offset = 2) (cd : P.cellsOf d0.type = 1 ∧ P.cellsOf d1.type = 1 ∧ P.cellsOf d2.type = 1) (ud0 : P.underlying d0.type = some (.int .i64)) (ud1 : P.underlying d1.type = some .bool) (ud2 : P.underlying d2.type = some (.slice ev)) (xv : P.underlying ev = some (.int .u64)) (kv : P.cellsOf ev = 1)
    (hv : Value.okWide P W .any base t v) (h : DataW.Trod enc P W 0 (fun _ => true) true t v d p) : IsWord W v := by
  obtain ⟨cs, rfl, hs⟩ := okWide_struct ht hv
  obtain ⟨fuel, hf⟩ := h
  obtain ⟨xs, m, _, _, hl, hlen, hg⟩ := DataW.trod_struct ht hf
  have r : ∀ (i : Nat) (f : Field), (#[f0, f1, f2, f3, f4, f5, f6, f7] : Array Field)[i]? = some f → ∃ y, DataW.trod enc P W 0 (fun _ => true) true m f.type ((cs.toList.drop f.offset).take (P.cellsOf f.type)) = some y := fun i f hi => by
    have := hg i f hi
    have hil : i < xs.length := by rw [hlen]; exact (Array.getElem?_eq_some_iff.1 hi).1
    rw [List.getElem?_eq_getElem hil] at this
    exact ⟨_, this⟩
  obtain ⟨y0, h0⟩ := r 0 f0 rfl
  obtain ⟨y1, h1⟩ := r 1 f1 rfl
  obtain ⟨y2, h2⟩ := r 2 f2 rfl
  obtain ⟨y3, h3⟩ := r 3 f3 rfl
  obtain ⟨y4, h4⟩ := r 4 f4 rfl
  obtain ⟨y5, h5⟩ := r 5 f5 rfl
  obtain ⟨y6, h6⟩ := r 6 f6 rfl
  obtain ⟨y7, h7⟩ := r 7 f7 rfl
  simp only [Value.cells] at hl
  rw [ct] at hl
  rw [oo.1, cc.1] at h0
  rw [oo.2.1, cc.2.1] at h1
  rw [oo.2.2.1, cc.2.2.1] at h2
  rw [oo.2.2.2.1, cc.2.2.2.1] at h3
  rw [oo.2.2.2.2.1, cc.2.2.2.2.1] at h4
  rw [oo.2.2.2.2.2.1, cc.2.2.2.2.2.1] at h5
  rw [oo.2.2.2.2.2.2.1, cc.2.2.2.2.2.2.1] at h6
  rw [oo.2.2.2.2.2.2.2, cc.2.2.2.2.2.2.2] at h7
  have eight : ∃ z0 z1 z2 z3 z4 z5 z6 z7, cs = #[z0, z1, z2, z3, z4, z5, z6, z7] := by
    obtain ⟨l⟩ := cs
    match l, hl with
    | [z0, z1, z2, z3, z4, z5, z6, z7], _ => exact ⟨z0, z1, z2, z3, z4, z5, z6, z7, rfl⟩
  obtain ⟨z0, z1, z2, z3, z4, z5, z6, z7, rfl⟩ := eight
  simp at h0 h1 h2 h3 h4 h5 h6 h7
  obtain ⟨kd, rfl, w0⟩ := one_int u0 h0
  obtain ⟨frm, rfl, w1⟩ := one_int u1 h1
  obtain ⟨why, rfl, w2⟩ := one_int u2 h2
  obtain ⟨A5, C5, vector, rfl, l5, q5, B5, R5⟩ := one_nums wf_u32 u5 x5 k5 h5
  obtain ⟨A6, C6, who, rfl, l6, q6, B6, R6⟩ := one_ints u6 x6 k6 h6
  obtain ⟨A3, C3, cards, e3', l3, q3, R3⟩ := open_tri (R := RCard) u3 s3 n3 oa.1 oa.2.1 oa.2.2 ca.1 ca.2.1 ca.2.2 (fun n z0 z1 z2 y0 y1 y2 g0 g1 g2 => by
    obtain ⟨x, rfl, bx⟩ := one_int ua0 g0
    obtain ⟨y, rfl, by_⟩ := one_u64 ua1 g1
    obtain ⟨z, rfl, bz⟩ := one_u64 ua2 g2
    exact ⟨⟨x, y, z⟩, ⟨rfl, rfl, rfl⟩, bx, by_, bz⟩) h3
  obtain ⟨A4, C4, parcels, e4', l4, q4, R4⟩ := open_tri (R := RParcel W) u4 s4 n4 ob.1 ob.2.1 ob.2.2 cb.1 cb.2.1 cb.2.2 (fun n z0 z1 z2 y0 y1 y2 g0 g1 g2 => by
    obtain ⟨x, rfl, bx⟩ := one_int ub0 g0
    obtain ⟨y, rfl, by_⟩ := one_int ub1 g1
    obtain ⟨aa, kk, xs, rfl, h1, h2, h3, h4⟩ := one_nums wf_u8 ub2 xb kb g2
    exact ⟨(⟨x, y, xs⟩, aa, kk), ⟨rfl, rfl, rfl⟩, bx, by_, rfl, h1, h2, h3, h4⟩) h4
  obtain ⟨A7, C7, openings, e7', l7, q7, R7⟩ := open_tri (R := ROpening W) u7 s7 n7 od.1 od.2.1 od.2.2 cd.1 cd.2.1 cd.2.2 (fun n z0 z1 z2 y0 y1 y2 g0 g1 g2 => by
    obtain ⟨x, rfl, bx⟩ := one_int ud0 g0
    obtain ⟨y, ey, _⟩ := DataW.trod_bool ud1 g1
    simp at ey
    subst ey
    obtain ⟨aa, kk, xs, rfl, h1, h2, h3, h4⟩ := one_nums wf_u64 ud2 xv kv g2
    exact ⟨(⟨x, y, xs⟩, aa, kk), ⟨rfl, rfl, rfl⟩, bx, h3, h2, h4⟩) h7
  simp at e3' e4' e7'
  subst e3' e4' e7'
  refine ⟨⟨kd, frm, why, cards, parcels.map (·.1), vector, who, openings.map (·.1)⟩, ⟨A3, C3, A4, C4, A5, C5, A6, C6, A7, C7, placeOf parcels, roomOf parcels, placeOf openings, roomOf openings⟩, by simp [wdc], ?_, ?_⟩
  · refine ⟨⟨w0, w1, w2⟩, ⟨q3, by simpa using q4, q5, q6, by simpa using q7⟩, ⟨l3, by simpa using l4, l5, l6, by simpa using l7⟩, ?_, ?_, ?_, ?_, R5, B5, R6, B6, ?_, ?_⟩
    · intro i x hx
      obtain ⟨b, off, z0, z1, z2, e, k0, k1, k2, ⟨rfl, rfl, rfl⟩, _⟩ := R3 i x hx
      exact ⟨b, off, e, k0, k1, k2⟩
    · intro x hx
      obtain ⟨i, hi⟩ := List.getElem?_of_mem hx
      obtain ⟨_, _, _, _, _, _, _, _, _, _, h⟩ := R3 i x hi
      exact h
    · intro i x hx
      obtain ⟨q, hq, rfl, p1, p2⟩ := of_map hx
      obtain ⟨b, off, z0, z1, z2, e, k0, k1, k2, ⟨rfl, rfl, rfl⟩, _, _, Y⟩ := R4 i q hq
      simp only [p1, p2]
      exact ⟨⟨b, off, e, k0, k1, k2⟩, Y.rd⟩
    · intro x hx
      obtain ⟨q, hq, rfl⟩ := List.mem_map.1 hx
      obtain ⟨i, hi⟩ := List.getElem?_of_mem hq
      obtain ⟨_, _, _, _, _, _, _, _, _, _, h1, h2, Y⟩ := R4 i q hi
      exact ⟨h1, h2, Y.each, Y.small⟩
    · intro i x hx
      obtain ⟨q, hq, rfl, p1, p2⟩ := of_map hx
      obtain ⟨b, off, z0, z1, z2, e, k0, k1, k2, ⟨rfl, rfl, rfl⟩, _, _, _, Y⟩ := R7 i q hq
      simp only [p1, p2]
      exact ⟨⟨b, off, e, k0, k1, k2⟩, Y⟩
    · intro x hx
      obtain ⟨q, hq, rfl⟩ := List.mem_map.1 hx
      obtain ⟨i, hi⟩ := List.getElem?_of_mem hq
      obtain ⟨_, _, _, _, _, _, _, _, _, _, h1, h2, h3, _⟩ := R7 i q hi
      exact ⟨h1, h2, h3⟩
  · intro i x hx
    obtain ⟨q, hq, rfl, p1, p2⟩ := of_map hx
    obtain ⟨_, _, _, _, _, _, _, _, _, _, _, _, Y⟩ := R4 i q hq
    simp only [p2]
    exact Y.room
end
end Go.Proofs.Ytepchjpdfmleoaa
