/-
  The landed bell: what lies in memory, with its map; what 'in' and 'out' leave.
-/
import Derived.Test.YtnmigdcedcmbkaaBellQ
import Derived.Test.YtnmigdcedcmbkaaMapP
namespace Go.Proofs.Ytnmigdcedcmbkaa
open Go.RowKit Bl Hp Pn
set_option linter.unusedVariables false

/-- The map tells which moment is whose. -/
structure Link (ms : List (Int × Nat)) (xs : List El) : Prop where
  len : ms.length = xs.length
  look : ∀ who g, lookP ms who = some g ↔ ∃ t, (g, (who, t)) ∈ xs
theorem Link.none {ms : List (Int × Nat)} {xs : List El} (h : Link ms xs) {who : Int} (hn : lookP ms who = none) : ∀ x ∈ xs, x.2.1 ≠ who := fun x hx e => by
  have := (h.look who x.1).2 ⟨x.2.2, by rw [← e]; exact hx⟩
  rw [hn] at this
  cases this
theorem Link.push {ms : List (Int × Nat)} {xs ys : List El} (h : Link ms xs) (x : El) (hn : lookP ms x.2.1 = Option.none) (hp : ys.Perm (xs ++ [x])) : Link ((x.2.1, x.1) :: ms) ys := by
  refine ⟨by rw [List.length_cons, h.len, hp.length_eq]; simp, fun who g => ?_⟩
  rw [lookP_cons]
  dsimp only
  have hmem : ∀ t, (g, (who, t)) ∈ ys ↔ (g, (who, t)) ∈ xs ∨ (g, (who, t)) = x := fun t => by rw [hp.mem_iff, List.mem_append, List.mem_singleton]
  simp only [hmem]
  by_cases e : x.2.1 = who
  · rw [if_pos e]
    constructor
    · rintro h1
      cases h1
      exact ⟨x.2.2, .inr (by rw [← e])⟩
    · rintro ⟨t, h1 | h1⟩
      · exact (h.none hn _ h1 e.symm).elim
      · rw [← h1]
  · rw [if_neg e, h.look]
    constructor
    · rintro ⟨t, h1⟩
      exact ⟨t, .inl h1⟩
    · rintro ⟨t, h1 | h1⟩
      · exact ⟨t, h1⟩
      · exact (e (by rw [← h1])).elim
theorem Link.pull {ms : List (Int × Nat)} {xs zs : List El} (h : Link ms xs) (hd : (ms.map (·.1)).Nodup) (ha : (xs.map (·.1)).Nodup) (x : El) (hp : (zs ++ [x]).Perm xs) : Link (ms.filter fun y => decide (y.1 ≠ x.2.1)) zs := by
  have hx : x ∈ xs := hp.mem_iff.1 (by simp)
  have hs := (h.look x.2.1 x.1).2 ⟨x.2.2, hx⟩
  have hz : ∀ y ∈ zs, y ∈ xs ∧ y.1 ≠ x.1 := fun y hy => by
    refine ⟨hp.mem_iff.1 (by simp [hy]), fun e => ?_⟩
    have := ((hp.map (·.1)).nodup_iff).2 ha
    rw [List.map_append, List.nodup_append] at this
    exact this.2.2 y.1 (List.mem_map_of_mem hy) x.1 (by simp) e
  refine ⟨?_, fun who g => ?_⟩
  · have h1 := drop_length ms x.2.1 hd
    have h2 := h.len
    have h3 := hp.length_eq
    rw [hs] at h1
    rw [List.length_append, List.length_singleton] at h3
    simp only [Option.isSome_some, if_true] at h1
    omega
  · rw [lookP_drop]
    by_cases e : who = x.2.1
    · rw [if_pos e]
      constructor
      · intro h1; cases h1
      · rintro ⟨t, h1⟩
        have h2 := (h.look who g).2 ⟨t, (hz _ h1).1⟩
        rw [e, hs] at h2
        cases h2
        exact ((hz _ h1).2 rfl).elim
    · rw [if_neg e, h.look]
      constructor
      · rintro ⟨t, h1⟩
        have := hp.mem_iff.2 h1
        rcases List.mem_append.1 this with h2 | h2
        · exact ⟨t, h2⟩
        · exact (e (by rw [← List.mem_singleton.1 h2])).elim
      · rintro ⟨t, h1⟩
        exact ⟨t, (hz _ h1).1⟩

/-- The bell with its map; its moments are xs. -/
structure Full (N : Nat) (B : Nat → Prop) (bb gm : Nat) (hm : Option Obj) (xs : List El) (ms : List (Int × Nat)) (w : World) : Prop where
  hp : HpSt N B bb gm hm xs w
  mp : MapP w gm ms
  heap : Heap (kf Prod.snd xs) xs.length
  link : Link ms xs
  who : ∀ x ∈ xs, B64 x.2.1
section
variable {N : Nat} {B : Nat → Prop} {bb gm : Nat} {hm : Option Obj} {xs : List El} {ms : List (Int × Nat)} {w : World}
theorem MapP.not {w : World} {b : Nat} {ms : List (Int × Nat)} (h : MapP w b ms) {t : TypeId} {vs : List Value} {g : Nat} (r : Row w g t vs) : g ≠ b := fun e => by
  obtain ⟨D, ⟨es, clock, h0, _⟩, _⟩ := h
  subst e
  have := r.symm.trans h0
  cases this
theorem MapP.nodup {w : World} {b : Nat} {ms : List (Int × Nat)} (h : MapP w b ms) : (ms.map (·.1)).Nodup := by
  obtain ⟨_, _, _, h2, _⟩ := h
  exact h2
theorem HpSt.move (h : HpSt N B bb gm hm xs w) {N' : Nat} {B' : Nat → Prop} {w' : World} (hB : ∀ q, q < w.heap.size → (B q ∨ N ≤ q) → (B' q ∨ N' ≤ q)) (hN : N' ≤ w'.heap.size) (hl : gm < w'.heap.size) (hb : ∀ q, q < w.heap.size → (B q ∨ N ≤ q) → q ≠ gm → w'.heap[q]? = w.heap[q]?) : HpSt N' B' bb gm w'.heap[gm]? xs w' := by
  obtain ⟨v, r, ow, hq⟩ := h.arr
  refine ⟨⟨v, (hb bb r.lt h.two.2.1 h.two.1).trans r, ?_, fun q e => ?_⟩, fun i x hx => ?_, fun x hx => ?_, h.apart, rfl, ⟨h.two.1, hB bb r.lt h.two.2.1, hB gm h.mlt h.two.2.2⟩, h.few, hN, hl⟩
  · obtain ⟨o1, o⟩ := ow
    refine ⟨o1, ?_⟩
    rcases o with o | ⟨g, cap, cur, e, o2, o3, o4⟩
    · exact .inl o
    · have q := hq g (by rw [e]; rfl)
      have R0 : Row w g 51 cur.toList := by simpa [Row] using o3
      exact .inr ⟨g, cap, cur, e, o2, (hb g R0.lt q.1 q.2.2.1).trans o3, o4⟩
  · have q' := hq q e
    obtain ⟨cs, hr⟩ := own_row ow e
    exact ⟨hB q hr.lt q'.1, q'.2⟩
  · have hm := h.own x (List.mem_of_getElem? hx)
    have r := h.each i x hx
    exact (hb x.1 r.lt hm.1 hm.2.2).trans r
  · have hm := h.own x hx
    obtain ⟨k, hk, rfl⟩ := List.mem_iff_getElem.1 hx
    exact ⟨hB _ (h.each k _ (List.getElem?_eq_getElem hk)).lt hm.1, hm.2⟩
theorem Full.move (h : Full N B bb gm hm xs ms w) {N' : Nat} {B' : Nat → Prop} {w' : World} (hB : ∀ q, q < w.heap.size → (B q ∨ N ≤ q) → (B' q ∨ N' ≤ q)) (hN : N' ≤ w'.heap.size) (hb : ∀ q, q < w.heap.size → (B q ∨ N ≤ q) → w'.heap[q]? = w.heap[q]?) : Full N' B' bb gm w'.heap[gm]? xs ms w' := by
  have e := hb gm h.hp.mlt h.hp.two.2.2
  have mp := h.mp.stay e
  exact ⟨h.hp.move hB hN mp.lt fun q h1 h2 _ => hb q h1 h2, mp, h.heap, h.link, h.who⟩
theorem HpSt.mapped (h : HpSt N B bb gm hm xs w) {w' : World} (g : w.grownBy w' (some gm)) : HpSt N B bb gm w'.heap[gm]? xs w' :=
  h.move (fun _ _ h => h) (Nat.le_trans h.new g.size) (Nat.lt_of_lt_of_le h.mlt g.size) fun q h1 _ h2 => g.block q h1 (by simpa using h2)
theorem MapP.fr (h : MapP w gm ms) {w' : World} (g : w.grownBy w' (some gm)) (hg : B gm ∨ N ≤ gm) (hN : N ≤ w.heap.size) : Fr N B w w' :=
  Fr.grown g (fun q e => by cases e; exact hg) hN fun q e m hm => by
    cases e
    obtain ⟨p, r⟩ := hm
    exact (h.not r rfl).elim
theorem map_some (g : Nat) (w : World) : (binOp .eql 47 (.map (some g)) (.map none)).run Try.prog w = .ok (.bool false) w := by kernel_rfl
theorem map_none (w : World) : (binOp .eql 47 (.map none) (.map none)).run Try.prog w = .ok (.bool true) w := by kernel_rfl
/-- 'out': the one at place i goes. -/
theorem out_core (F : Full N B bb gm hm xs ms w) {i n : Nat} (hl : xs.length = n + 1) (hi : i ≤ n) {w1 : World} {zs : List El} (x : El) (hx : x ∈ xs) (G : Gone Prod.snd n xs x zs) (S : HpSt N B bb gm hm zs w1) (R : Fr N B w w1) :
    MapP w1 gm ms ∧ Mom w1 x.1 x.2 ∧ B64 x.2.1 ∧ ∀ w2, MapP w2 gm (ms.filter fun y => decide (y.1 ≠ x.2.1)) → w1.grownBy w2 (some gm) → Full N B bb gm w2.heap[gm]? zs (ms.filter fun y => decide (y.1 ≠ x.2.1)) w2 ∧ Mom w2 x.1 x.2 ∧ Fr N B w w2 := by
  have M1 : MapP w1 gm ms := F.mp.stay (S.map.trans F.hp.map.symm)
  obtain ⟨k, hk, e⟩ := List.mem_iff_getElem.1 hx
  have m0 : Mom w x.1 x.2 := ⟨_, by have := F.hp.each k x (by rw [← e]; exact List.getElem?_eq_getElem hk); exact this⟩
  have m1 := R.keep _ _ m0
  refine ⟨M1, m1, F.who x hx, fun w2 h2 g2 => ?_⟩
  have hne : x.1 ≠ gm := (F.hp.own x hx).2.2
  refine ⟨⟨S.mapped g2, h2, by rw [G.1]; exact G.2.2, F.link.pull F.mp.nodup F.hp.apart x G.2.1, fun y hy => F.who y (G.2.1.mem_iff.1 (by simp [hy]))⟩, m1.grown g2 (by simpa using fun e => hne e.symm), R.trans (M1.fr g2 F.hp.two.2.2 S.new)⟩

set_option maxHeartbeats 2000000 in
theorem out19 (F : Full N B bb gm hm xs ms w) {i n : Nat} (hl : xs.length = n + 1) (hi : i ≤ n) :
    Calls Try.prog 15 #[.pointer (some ⟨bb, 0, none⟩), .int .i64 (i : Int)] w fun e w' => e = .returned (.pointer (some ⟨(xs.getD i default).1, 0, none⟩)) ∧
      ∃ hm' zs ms', Full N B bb gm hm' zs ms' w' ∧ (zs ++ [xs.getD i default]).Perm xs ∧ Mom w' (xs.getD i default).1 (xs.getD i default).2 ∧ Fr N B w w' := by
  have hx : xs.getD i default ∈ xs := by
    rw [show xs.getD i default = xs[i]'(by omega) by simp [List.getD, show i < xs.length by omega]]
    exact List.getElem_mem _
  have C := hide (remove_any (hpK N B bb gm hm) (hpM N B bb gm hm) xs n i w F.hp hl hi (by rw [← hl]; exact F.heap))
  have CC := hide (fun (w1 : World) (zs : List El) (G : Gone Prod.snd n xs (xs.getD i default) zs) (S : HpSt N B bb gm hm zs w1) (R : Fr N B w w1) => out_core F hl hi (xs.getD i default) hx G S R)
  have ta : ∀ (p : Value) (w' : World), (Instr.typeAssert (.iface 51 p) 20 51 false).run Try.prog w' = .ok p w' := fun p w' => by kernel_rfl
  clear F hx hl hi
  revert C CC
  generalize xs.getD i default = x
  obtain ⟨gx, who, at_⟩ := x
  dsimp only [val19]
  intro C CC
  go_enter Try.func15, Try.ntmps15
  go_wp2_with fail
  refine C.out.mono ?_
  rintro e w1 ⟨rfl, zs, G, S, R⟩
  obtain ⟨M1, ⟨p, r1⟩, hw, K⟩ := CC.out w1.drew zs G (S.drewN 1) (R.trans (Fr.drewN N B w1 1))
  have r1 : Row w1 gx 53 [.int .i64 who, .int .i64 at_, .int .i64 p] := r1
  obtain ⟨v, rb, -, -⟩ := S.arr
  have c1 := rb.cell (i := 1) rfl
  have c2 := r1.cell (i := 0) rfl
  obtain ⟨w2, hd, M2, g2⟩ := M1.drop (t := 47) Try.underlying47 hw 0
  have KK := hide (K w2 M2 g2)
  have P := hide G.2.1
  clear CC C G S R M1 r1 rb K M2
  go_wp2_with fail
  go_region
  go_wp2
  go_ret
  exact ⟨rfl, _, zs, _, KK.out.1, P.out, KK.out.2.1, KK.out.2.2⟩

theorem push_core (S : HpSt N B bb gm hm xs w) (H : Heap (kf Prod.snd xs) xs.length) (L : Link ms xs) (hb : ∀ x ∈ xs, B64 x.2.1) (gx : Nat) (m : Mk) (M : MapP w gm ((m.1, gx) :: ms)) (hn : lookP ms m.1 = none) (hw : B64 m.1) (hl : xs.length ≤ 1000)
    (hr : Mom w gx m) (hg : B gx ∨ N ≤ gx) (hne : ∀ y ∈ xs, y.1 ≠ gx) :
    Calls Try.prog 16 #[.iface 57 (.pointer (some ⟨bb, 0, none⟩)), .iface 51 (.pointer (some ⟨gx, 0, none⟩))] w fun e w' => e = .returned (.tuple #[]) ∧
      ∃ ys, ys.Perm (xs ++ [(gx, m)]) ∧ Full N B bb gm hm ys ((m.1, gx) :: ms) w' ∧ Fr N B w w' := by
  obtain ⟨p, r⟩ := hr
  obtain ⟨v, rb, ow, hq⟩ := S.arr
  have rd : Ready19 N B bb gm (gx, m) (.iface 51 (.pointer (some ⟨gx, 0, none⟩))) xs w := by
    refine ⟨rfl, ⟨p, r⟩, hg, fun e => ?_, M.not r, hne, by omega, fun a n c hc e => ?_⟩
    · have e : gx = bb := e
      subst e
      exact absurd (rb.one r) (by decide)
    · have e : gx = a.block := e
      have e0 := rb.cell (i := 0) rfl
      rw [hc] at e0
      cases e0
      obtain ⟨cs, hr⟩ := own_row ow (q := a.block) rfl
      subst e
      exact absurd (hr.one r) (by decide)
  refine (push_any (hpK N B bb gm hm) (hpM N B bb gm hm) xs (gx, m) _ w S H rd).mono ?_
  rintro e w' ⟨he, ys, h1, h2, h3, h4⟩
  have hlen : ys.length = xs.length + 1 := by rw [h1.length_eq]; simp
  refine ⟨he, ys, h1, ⟨h3, M.stay (h3.map.trans S.map.symm), by rw [hlen]; exact h2, L.push (gx, m) hn h1, fun x hx => ?_⟩, h4⟩
  rcases List.mem_append.1 (h1.mem_iff.1 hx) with h5 | h5
  · exact hb x h5
  · rw [List.mem_singleton.1 h5]; exact hw

set_option maxHeartbeats 2000000 in
/-- 'in', where there is a map. -/
theorem in19 (F : Full N B bb gm hm xs ms w) (gx : Nat) (m : Mk) (hn : lookP ms m.1 = none) (hw : B64 m.1) (hl : xs.length ≤ 1000) (hr : Mom w gx m) (hg : B gx ∨ N ≤ gx) (hne : ∀ y ∈ xs, y.1 ≠ gx) :
    Calls Try.prog 14 #[.pointer (some ⟨bb, 0, none⟩), .pointer (some ⟨gx, 0, none⟩)] w fun e w' => e = .returned (.tuple #[]) ∧ ∃ hm' ys ms', Full N B bb gm hm' ys ms' w' ∧ ys.Perm (xs ++ [(gx, m)]) ∧ Fr N B w w' := by
  obtain ⟨v, rb, -, -⟩ := F.hp.arr
  have c1 := rb.cell (i := 1) rfl
  obtain ⟨p, r⟩ := hr
  have c2 := r.cell (i := 0) rfl
  have Md : MapP w.drew gm ms := F.mp
  obtain ⟨w2, hd, M2, g2⟩ := Md.store (t := 47) Try.underlying47 hw hn (by rw [F.link.len]; omega) gx
  have S2 := (F.hp.drewN 1).mapped g2
  have r2 : Mom w2 gx m := Mom.grown (w := w.drew) (show Mom w gx m from ⟨p, r⟩) g2 (by have := F.mp.not r; simpa using fun e => this e.symm)
  have C := hide (push_core S2 F.heap F.link F.who gx m M2 hn hw hl r2 hg hne)
  have R2 := hide (show Fr N B w w2 from (Fr.drewN N B w 1).trans (Md.fr g2 F.hp.two.2.2 F.hp.new))
  have em := map_some gm
  clear F Md M2 S2 r2 hn hl rb r
  go_enter Try.func14, Try.ntmps14
  go_wp2_with fail
  go_region
  go_wp2_with fail
  refine C.out.mono ?_
  rintro e w3 ⟨rfl, ys, h1, h2, h3⟩
  have FF := hide (⟨_, ys, _, h2, h1, R2.out.trans h3⟩ : ∃ hm' ys ms', Full N B bb gm hm' ys ms' w3 ∧ ys.Perm (xs ++ [(gx, m)]) ∧ Fr N B w w3)
  clear C h1 h2 h3 R2
  go_wp2
  go_end0
  exact ⟨rfl, FF.out⟩

set_option maxHeartbeats 2000000 in
/-- 'in', where there is no map yet. -/
theorem in19_new (rb : Row w bb 49 [.slice none 0 0, .map none]) (hB : B bb ∨ N ≤ bb) (hN : N ≤ w.heap.size) (gx : Nat) (m : Mk) (hw : B64 m.1) (hr : Mom w gx m) (hg : B gx ∨ N ≤ gx) :
    Calls Try.prog 14 #[.pointer (some ⟨bb, 0, none⟩), .pointer (some ⟨gx, 0, none⟩)] w fun e w' => e = .returned (.tuple #[]) ∧ ∃ gm' hm' ys ms', Full N B bb gm' hm' ys ms' w' ∧ ys.Perm [(gx, m)] ∧ Fr N B w w' := by
  have b1 := rb.cell (i := 1) rfl
  obtain ⟨p, r⟩ := hr
  obtain ⟨w1, hw1⟩ : ∃ w1, w1 = w.alloc (.map #[] 0) := ⟨_, rfl⟩
  have O1 : Old w w1 := by rw [hw1]; exact Old.of_alloc _ _
  have M1 : MapP w1 w.heap.size [] := by rw [hw1]; exact MapP.made w
  have f1 := (rb.mono O1).free 1
  have b2 := (rb.mono O1).cell (i := 1) rfl
  obtain ⟨w2, hw2⟩ : ∃ w2, w2 = w1.setCell ⟨bb, 1, none⟩ (.map (some w.heap.size)) := ⟨_, rfl⟩
  have rb2 : Row w2 bb 49 [.slice none 0 0, .map (some w.heap.size)] := by rw [hw2]; exact (rb.mono O1).set 1 _
  have nb : bb ≠ w.heap.size := by have := rb.lt; omega
  have M2 : MapP w2 w.heap.size [] := M1.stay (by rw [hw2]; exact Below.heap_setCell _ _ _ _ (by simpa using fun e => nb e.symm))
  have r1 := r.mono O1
  have r2 : Row w2 gx 53 [.int .i64 m.1, .int .i64 m.2, .int .i64 p] := by
    rw [hw2]
    refine r1.other fun e => ?_
    subst e
    exact absurd (rb.one r) (by decide)
  have c1 := rb2.cell (i := 1) rfl
  have c2 := r2.cell (i := 0) rfl
  have g2 : w1.grownBy w2 (some bb) := by rw [hw2]; exact grown_set _ _ _ _
  have R2 : Fr N B w w2 := (Fr.of_old O1 hN).trans (Fr.grown g2 (fun q e => by cases e; exact hB) (Nat.le_trans hN O1.size) (fun q e m hm => by cases e; exact (Mom.not (rb.mono O1) (by decide) m hm).elim))
  have sz : w.heap.size < w2.heap.size := M2.lt
  have S2 : HpSt N B bb w.heap.size w2.heap[w.heap.size]? [] w2 := by
    refine ⟨⟨_, rb2, ⟨rfl, .inl ⟨rfl, rfl⟩⟩, fun q e => by cases e⟩, fun i x hx => by simp at hx, fun x hx => by simp at hx, by simp, rfl, ⟨nb, hB, .inr hN⟩, by simp, by omega, sz⟩
  have Md : MapP w2.drew w.heap.size [] := M2
  obtain ⟨w3, hd, M3, g3⟩ := Md.store (t := 47) Try.underlying47 hw rfl (by simp) gx
  have S3 := (S2.drewN 1).mapped g3
  have r3 : Mom w3 gx m := Mom.grown (w := w2.drew) (show Mom w2 gx m from ⟨p, r2⟩) g3 (by have := M2.not r2; simpa using fun e => this e.symm)
  have C := hide (push_core S3 (fun k h1 h2 => by simp at h2) ⟨rfl, fun who g => by simp [lookP]⟩ (fun x hx => by simp at hx) gx m M3 rfl hw (by simp) r3 hg (fun y hy => by simp at hy))
  have R3 := hide (show Fr N B w w3 from (R2.trans (Fr.drewN N B w2 1)).trans (Md.fr g3 (.inr hN) (by show N ≤ w2.heap.size; omega)))
  have hmm : (Instr.makeMap 47 none).run Try.prog w = .ok (.map (some w.heap.size)) w1 := by rw [hw1]; rfl
  have E2 := hide hw2
  have em := map_none
  have ef := map_some w.heap.size
  clear M3 S3 r3 g3 Md S2 sz g2 R2 r2 r1 M2 rb2 M1 O1 rb r hw1 hw2 nb
  go_enter Try.func14, Try.ntmps14
  go_wp2_with fail
  rw [← E2.out]
  go_region
  go_wp2_with fail
  refine C.out.mono ?_
  rintro e w4 ⟨rfl, ys, h1, h2, h3⟩
  have FF := hide (⟨_, _, ys, _, h2, h1, R3.out.trans h3⟩ : ∃ gm' hm' ys ms', Full N B bb gm' hm' ys ms' w4 ∧ ys.Perm [(gx, m)] ∧ Fr N B w w4)
  clear C h1 h2 h3 R3
  go_wp2
  go_end0
  exact ⟨rfl, FF.out⟩
end
end Go.Proofs.Ytnmigdcedcmbkaa
