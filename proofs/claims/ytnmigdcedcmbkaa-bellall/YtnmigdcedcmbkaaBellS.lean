/-
  The landed bell's list of moments: Swap leaves the list with two changed about.
-/
import Derived.Test.YtnmigdcedcmbkaaBellM
namespace Go.Proofs.Ytnmigdcedcmbkaa
open Go.RowKit Bl Hp
set_option linter.unusedVariables false

theorem ptrs_swp (xs : List El) {i j : Nat} (hi : i < xs.length) (hj : j < xs.length) : ptrs (swp xs i j) = ((ptrs xs).set i (.pointer (some ⟨(xs.getD j default).1, 0, none⟩))).set j (.pointer (some ⟨(xs.getD i default).1, 0, none⟩)) := by
  have e : swp xs i j = (xs.set i xs[j]).set j xs[i] := by
    unfold swp
    rw [List.getElem?_eq_getElem hi, List.getElem?_eq_getElem hj]
  rw [e, show xs.getD i default = xs[i] by simp [List.getD, hi], show xs.getD j default = xs[j] by simp [List.getD, hj]]
  unfold ptrs
  rw [List.map_set, List.map_set]
section
variable {N : Nat} {B : Nat → Prop} {bb gm : Nat} {hm : Option Obj} {xs : List El} {w : World}
theorem Row.drew {w : World} {g : Nat} {t : TypeId} {vs : List Value} (h : Row w g t vs) : Row w.drew g t vs := h
theorem Row.other {w : World} {g g' p : Nat} {t : TypeId} {vs : List Value} {v : Value} (h : Row w g t vs) (hne : g ≠ g') : Row (w.setCell ⟨g', p, none⟩ v) g t vs := h.grown (grown_set w g' p v) hne
set_option maxHeartbeats 2000000 in
theorem swap19 (h : HpSt N B bb gm hm xs w) (a : Option Addr) (cap i j : Nat) (hc : w.cell? ⟨bb, 0, none⟩ = some (.slice a xs.length cap)) (hi : i < xs.length) (hj : j < xs.length) :
    Calls Try.prog 38 #[.slice a xs.length cap, .int .i64 (i : Int), .int .i64 (j : Int)] w fun e w' => e = .returned (.tuple #[]) ∧ HpSt N B bb gm hm (swp xs i j) w' ∧ Fr N B w w' := by
  obtain ⟨v, rb, ⟨o1, o⟩, hq⟩ := h.arr
  have exi : xs[i]? = some (xs.getD i default) := by simp [List.getD, hi]
  have exj : xs[j]? = some (xs.getD j default) := by simp [List.getD, hj]
  obtain ⟨gx, xm, hgx⟩ : ∃ gx xm, xs.getD i default = (gx, xm) := ⟨_, _, rfl⟩
  obtain ⟨gy, ym, hgy⟩ : ∃ gy ym, xs.getD j default = (gy, ym) := ⟨_, _, rfl⟩
  have PS := ptrs_swp xs hi hj
  rw [hgx] at exi PS
  rw [hgy] at exj PS
  rcases o with ⟨rfl, h0⟩ | ⟨g, cap', cur, rfl, o2, o3, o4, o5, o6, o7⟩
  · omega
  have e0 := rb.cell (i := 0) rfl
  rw [hc] at e0
  cases e0
  have hgq := hq g rfl
  have mx : (gx, xm) ∈ xs := List.mem_of_getElem? exi
  have my : (gy, ym) ∈ xs := List.mem_of_getElem? exj
  have ngx : gx ≠ g := hgq.2.2.2 _ mx
  have ngy : gy ≠ g := hgq.2.2.2 _ my
  have uniq : ∀ (p q : Nat) (x y : El), xs[p]? = some x → xs[q]? = some y → x.1 = y.1 → p = q := fun p q x y hp hq e => by
    have hpw := List.pairwise_iff_getElem.1 h.apart
    obtain ⟨lp, ep⟩ := List.getElem?_eq_some_iff.1 hp
    obtain ⟨lq, eq⟩ := List.getElem?_eq_some_iff.1 hq
    rcases Nat.lt_trichotomy p q with hl | hl | hl
    · exact (hpw p q (by simpa using lp) (by simpa using lq) hl (by rw [List.getElem_map, List.getElem_map, ep, eq, e])).elim
    · exact hl
    · exact (hpw q p (by simpa using lq) (by simpa using lp) hl (by rw [List.getElem_map, List.getElem_map, ep, eq, e])).elim
  have same : gx = gy → i = j := fun e => uniq i j _ _ exi exj e
  have lcur : cur.size = cap := by simpa using o6
  have R0 : Row w g 51 cur.toList := by simpa [Row] using o3
  have ci : cur.toList[i]? = some (.pointer (some ⟨gx, 0, none⟩)) := by
    have := ptrs_at exi
    rw [← o7, List.getElem?_take] at this
    split at this
    · exact this
    · cases this
  have cj : cur.toList[j]? = some (.pointer (some ⟨gy, 0, none⟩)) := by
    have := ptrs_at exj
    rw [← o7, List.getElem?_take] at this
    split at this
    · exact this
    · cases this
  have R1 := R0.set i (.pointer (some ⟨gy, 0, none⟩))
  have R2 := (R1.set j (.pointer (some ⟨gx, 0, none⟩))).drew
  have il : i < cur.toList.length := (List.getElem?_eq_some_iff.1 ci).1
  have jl : j < cur.toList.length := (List.getElem?_eq_some_iff.1 cj).1
  have mxr := h.each i _ exi
  have myr := h.each j _ exj
  have V1 : Row (swV w g i j gx gy) gx 53 (momV (gx, xm) i) := ((mxr.other ngx).other ngx).drew
  have V2 : Row (swV w g i j gx gy) gy 53 (momV (gy, ym) j) := ((myr.other ngy).other ngy).drew
  have V2' : Row ((swV w g i j gx gy).setCell ⟨gy, 2, none⟩ (.int .i64 (i : Int))) gy 53 (momV (gy, ym) i) := V2.set 2 _
  have V1' : ∃ o, ((swV w g i j gx gy).setCell ⟨gy, 2, none⟩ (.int .i64 (i : Int))).cell? ⟨gx, 2, none⟩ = some o ∧ ((swV w g i j gx gy).setCell ⟨gy, 2, none⟩ (.int .i64 (i : Int))).frozen? ⟨gx, 2, none⟩ = false := by
    by_cases e : gx = gy
    · refine ⟨.int .i64 (i : Int), ?_, ?_⟩
      · rw [show (⟨gx, 2, none⟩ : Addr) = ⟨gy, 2, none⟩ by rw [e]]
        exact V2'.cell (i := 2) rfl
      · rw [show (⟨gx, 2, none⟩ : Addr) = ⟨gy, 2, none⟩ by rw [e]]
        exact V2'.free 2
    · have := V1.other (p := 2) (v := .int .i64 (i : Int)) e
      exact ⟨_, this.cell (i := 2) rfl, this.free 2⟩
  obtain ⟨ox, hx1, hx2⟩ := V1'
  have f4 : ∃ o, (w.setCell ⟨g, i, none⟩ (.pointer (some ⟨gy, 0, none⟩))).cell? ⟨g, j, none⟩ = some o := by
    have hl : j < (cur.toList.set i (.pointer (some ⟨gy, 0, none⟩))).length := by rw [List.length_set]; exact jl
    exact ⟨_, R1.cell (List.getElem?_eq_getElem hl)⟩
  obtain ⟨o3', hf4⟩ := f4
  have di : (swV w g i j gx gy).cell? ⟨g, i, none⟩ = some (.pointer (some ⟨gy, 0, none⟩)) := R2.cell (by
    rw [List.getElem?_set, List.getElem?_set, List.length_set]
    by_cases e : j = i
    · subst e
      have : gx = gy := by rw [exi] at exj; cases exj; rfl
      simp [this]
      omega
    · rw [if_neg e]
      simp
      omega)
  have dj : (swV w g i j gx gy).cell? ⟨g, j, none⟩ = some (.pointer (some ⟨gx, 0, none⟩)) := R2.cell (by
    rw [List.getElem?_set, List.length_set, if_pos rfl, if_pos jl])
  refine (swap_core g xs.length cap i j gx gy _ ox o3' w hi hj (R0.cell ci) (R0.cell cj) (R0.free i) (R0.free j) (R1.free j) hf4 di dj (V2.cell (i := 2) rfl) (V2.free 2) hx1 hx2).mono ?_
  rintro e w' ⟨rfl, rfl⟩
  have RA : Row (swW (swV w g i j gx gy) i j gx gy) g 51 ((cur.toList.set i (.pointer (some ⟨gy, 0, none⟩))).set j (.pointer (some ⟨gx, 0, none⟩))) := ((R2.other (fun e => ngy e.symm)).other (fun e => ngx e.symm)).drew
  have oth : ∀ (q : Nat) (t : TypeId) (vs : List Value), q ≠ g → q ≠ gx → q ≠ gy → Row w q t vs → Row (swW (swV w g i j gx gy) i j gx gy) q t vs := fun q t vs n1 n2 n3 r => (((((r.other n1).other n1).drew).other n3).other n2).drew
  have blk : ∀ q : Nat, q ≠ g → q ≠ gx → q ≠ gy → (swW (swV w g i j gx gy) i j gx gy).heap[q]? = w.heap[q]? := fun q n1 n2 n3 => by
    unfold swW swV
    show (((((w.setCell _ _).setCell _ _).drew).setCell _ _).setCell _ _).heap[q]? = _
    rw [Below.heap_setCell _ _ _ _ (by simpa using n2), Below.heap_setCell _ _ _ _ (by simpa using n3)]
    show ((w.setCell _ _).setCell _ _).heap[q]? = _
    rw [Below.heap_setCell _ _ _ _ (by simpa using n1), Below.heap_setCell _ _ _ _ (by simpa using n1)]
  have siz : (swW (swV w g i j gx gy) i j gx gy).heap.size = w.heap.size := by simp [swW, swV]
  have lsw := swp_length xs i j
  have psw := swp_perm xs hi hj
  refine ⟨rfl, ⟨⟨_, oth bb _ _ (fun e => hgq.2.1 e.symm) (fun e => (h.own _ mx).2.1 e.symm) (fun e => (h.own _ my).2.1 e.symm) rb, ⟨by rw [ptrs_length, Nat.mul_one], .inr ⟨g, cap, _, by rw [lsw], Nat.zero_le _, RA, by rw [lsw]; exact o4, o5, ?_, ?_⟩⟩, fun q e => ?_⟩, fun k x hk => ?_, fun x hx => h.own x (psw.mem_iff.1 hx), ?_, ?_, h.two, by rw [lsw]; exact h.few, by rw [siz]; exact h.new, by rw [siz]; exact h.mlt⟩, ?_⟩
  · simp [lcur]
  · rw [lsw, PS, ← o7, Nat.mul_one]
    simp only
    rw [List.take_set, List.take_set]
  · cases e
    exact ⟨hgq.1, hgq.2.1, hgq.2.2.1, fun x hx => hgq.2.2.2 x (psw.mem_iff.1 hx)⟩
  · rw [swp_get xs hi hj] at hk
    by_cases e1 : k = j
    · rw [if_pos e1, exi] at hk
      cases hk
      subst e1
      by_cases e2 : gx = gy
      · subst e2
        exact ((V1.set 2 (.int .i64 (i : Int))).set 2 (.int .i64 (k : Int))).drew
      · exact ((V1.other (p := 2) (v := .int .i64 (i : Int)) e2).set 2 (.int .i64 (k : Int))).drew
    · rw [if_neg e1] at hk
      by_cases e2 : k = i
      · rw [if_pos e2, exj] at hk
        cases hk
        subst e2
        exact (V2'.other (fun e => e1 (same e.symm))).drew
      · rw [if_neg e2] at hk
        have n1 : x.1 ≠ gx := fun e => e2 (uniq k i _ _ hk exi e)
        have n2 : x.1 ≠ gy := fun e => e1 (uniq k j _ _ hk exj e)
        exact oth x.1 _ _ (hgq.2.2.2 x (List.mem_of_getElem? hk)) n1 n2 (h.each k x hk)
  · exact (psw.map (·.1)).nodup_iff.2 h.apart
  · rw [blk gm (fun e => hgq.2.2.1 e.symm) (fun e => (h.own _ mx).2.2 e.symm) (fun e => (h.own _ my).2.2 e.symm)]
    exact h.map
  · refine ⟨rfl, rfl, rfl, by rw [siz]; exact Nat.le_refl _, fun k hk hb => blk k ?_ ?_ ?_, fun q m hm => ?_⟩
    · rintro rfl
      rcases hgq.1 with q | q
      · exact hb q
      · omega
    · rintro rfl
      rcases (h.own _ mx).1 with q | q
      · exact hb q
      · simp at q; omega
    · rintro rfl
      rcases (h.own _ my).1 with q | q
      · exact hb q
      · simp at q; omega
    · have nq : q ≠ g := fun e => by subst e; exact Mom.not R0 (by decide) m hm
      have h1 : Mom (swV w g i j gx gy) q m := ((hm.grown (grown_set w g i _) (by simpa using fun e => nq e.symm)).grown (grown_set _ g j _) (by simpa using fun e => nq e.symm)).old (Old.of_drewN _ 1)
      have h2 : ∀ (v : World) (b : Nat) (z : Int), Mom v q m → Mom (v.setCell ⟨b, 2, none⟩ (.int .i64 z)) q m := fun v b z h => by
        by_cases e : b = q
        · subst e; exact h.set2 z
        · exact h.grown (grown_set v b 2 _) (by simpa using e)
      exact (h2 _ _ _ (h2 _ _ _ h1)).old (Old.of_drewN _ 1)
end
end Go.Proofs.Ytnmigdcedcmbkaa
