/-
  The walk of layer 12's statement TallyAdds, if the layer's calls are what they owe.
-/
import Derived.Test.YtegegfoogkpncaaDoorLaws12b
import Derived.Test.YtegegfoogkpncaaDoorGrow2
import Derived.Test.YtegegfoogkpncaaDoorSsq
namespace Go.Proofs.YtegegfoogkpncaaDoor
open Go.RowKit Pn
set_option linter.unusedVariables false

/-- What Encode hands back, in a world behind it: an error, or a slice of u32 in a block from B on. -/
def Ru (B L : Nat) (f : Int) (vs : List Nat) (v : Value) (w : World) : Prop := (f = 0 → ∃ g c t rest, v = .slice (some ⟨g, 0, none⟩) L c ∧ B ≤ g ∧ Row w g t (nums .u32 vs ++ rest)) ∧ (f ≠ 0 → ∃ a c, v = .slice a 0 c)
theorem Ru.mono {B L : Nat} {f : Int} {vs : List Nat} {v : Value} {w w' : World} (h : Ru B L f vs v w) (o : Old w w') : Ru B L f vs v w' :=
  ⟨fun h0 => by obtain ⟨g, c, t, rest, h1, h2, h3⟩ := h.1 h0; exact ⟨g, c, t, rest, h1, h2, h3.mono o⟩, h.2⟩
theorem Ru.slice {B L : Nat} {f : Int} {vs : List Nat} {v : Value} {w : World} (h : Ru B L f vs v w) : ∃ a n c, v = .slice a n c := by
  by_cases hf : f = 0
  · obtain ⟨g, c, t, rest, h1, _⟩ := h.1 hf
    exact ⟨_, _, _, h1⟩
  · obtain ⟨a, c, h1⟩ := h.2 hf
    exact ⟨_, _, _, h1⟩
theorem Ru.of {w w' : World} {e : Ending} {f : Int} {L : Nat} {vs : List Nat} (hL : vs.length = L) (h : CountR w w' e f (nums .u32 vs)) : ∃ v, e = .returned (.tuple #[v, .int .i64 f]) ∧ Old w w' ∧ Ru w.heap.size L f vs v w' := by
  obtain ⟨v, h1, h2, h3, h4⟩ := h
  refine ⟨v, h1, h2, fun h0 => ?_, h4⟩
  obtain ⟨g, cap, t, rest, k1, k2, k3⟩ := h3 h0
  rw [nums_length, hL] at k1
  exact ⟨g, cap, t, rest, k1, k2, k3⟩
def RuX (B L : Nat) (f : Int) (vs : List Nat) : Ssx.XP Old := ⟨fun v w => Ru B L f vs v w, fun _ _ _ h o => h.mono o⟩
def RutX (B L : Nat) (f : Int) (vs : List Nat) : Ssx.XP Old := ⟨fun u w => ∃ v, u = .tuple #[v, .int .i64 f] ∧ Ru B L f vs v w, fun _ _ _ ⟨v, h1, h2⟩ o => ⟨v, h1, h2.mono o⟩⟩

/-- The plan and the two lists of samples. -/
structure Td (w : World) (lo hi mo : Int) (a : Option Addr) (n cap : Nat) (es : List Int) (b : Option Addr) (k : Nat) (xs : List Int) (b' : Option Addr) (m : Nat) (ys : List Int) (wr : World) : Prop where
  bx : Bx w w.heap.size lo hi mo a n cap es wr
  sx : Sam wr b k xs
  sy : Sam wr b' m ys
theorem Td.mono {w : World} {lo hi mo : Int} {a : Option Addr} {n cap : Nat} {es : List Int} {b : Option Addr} {k : Nat} {xs : List Int} {b' : Option Addr} {m : Nat} {ys : List Int} {wr w' : World} (h : Td w lo hi mo a n cap es b k xs b' m ys wr) (o : Old wr w') : Td w lo hi mo a n cap es b k xs b' m ys w' := ⟨h.bx.mono o, h.sx.mono o, h.sy.mono o⟩

/-- The three vectors. -/
structure Ad (w : World) (gx gy gz : Nat) (tx ty tz : TypeId) (xs ys zs : List Nat) (rx ry rz : List Value) (wr : World) : Prop where
  x : Row wr gx tx (nums .u32 xs ++ rx)
  y : Row wr gy ty (nums .u32 ys ++ ry)
  z : Row wr gz tz (nums .u32 zs ++ rz)
  old : Old w wr
  hx : w.heap.size ≤ gx
  xy : gx ≠ gy
  xz : gx ≠ gz
section
variable {w : World} {gx gy gz : Nat} {tx ty tz : TypeId} {xs ys zs : List Nat} {rx ry rz : List Value} {wr w' : World}
theorem Ad.mono (h : Ad w gx gy gz tx ty tz xs ys zs rx ry rz wr) (o : Old wr w') : Ad w gx gy gz tx ty tz xs ys zs rx ry rz w' := ⟨h.x.mono o, h.y.mono o, h.z.mono o, h.old.trans o, h.hx, h.xy, h.xz⟩
theorem Ad.put (h : Ad w gx gy gz tx ty tz xs ys zs rx ry rz wr) {p : Nat} (hp : p < xs.length) (v : Nat) : Ad w gx gy gz tx ty tz (xs.set p v) ys zs rx ry rz (wr.setCell ⟨gx, p, none⟩ (.int .u32 (v : Int))) := by
  have gr : wr.grownBy (wr.setCell ⟨gx, p, none⟩ (.int .u32 (v : Int))) (some gx) := grown_set _ _ _ _
  refine ⟨?_, h.y.grown gr h.xy.symm, h.z.grown gr h.xz.symm, h.old.grown gr h.hx, h.hx, h.xy, h.xz⟩
  have h1 := h.x.set p (.int .u32 (v : Int))
  rw [List.set_append_left p _ (show p < (nums .u32 xs).length by rw [nums_length]; exact hp), nums_set] at h1
  exact h1
end
theorem at_front {w : World} {g : Nat} {t : TypeId} {vs : List Nat} {rest : List Value} (h : Row w g t (nums .u32 vs ++ rest)) {i z : Nat} (hz : vs[i]? = some z) : w.cell? ⟨g, i, none⟩ = some (.int .u32 (z : Int)) :=
  h.cell (by rw [List.getElem?_append_left (by rw [nums_length]; exact (List.getElem?_eq_some_iff.1 hz).1)]; simp [nums, hz])
theorem rd_front {w : World} {g : Nat} {t : TypeId} {vs : List Nat} {rest : List Value} (h : Row w g t (nums .u32 vs ++ rest)) : Rd w (some ⟨g, 0, none⟩) (nums .u32 vs) := fun i v hv => ⟨_, _, rfl, by
  rw [Nat.zero_add]; exact h.cell (by rw [List.getElem?_append_left (List.getElem?_eq_some_iff.1 hv).1]; exact hv)⟩
theorem cap_sum {s mo : Int} {k m : Nat} (h : capZ s mo (k + m) = 0) : capZ s mo k = 0 ∧ capZ s mo m = 0 ∧ s = 0 := by
  by_cases hs : s = 0
  · by_cases h2 : mo < ((k + m : Nat) : Int)
    · rw [cap_many hs h2] at h; cases h
    · exact ⟨cap_ok hs (by omega), cap_ok hs (by omega), hs⟩
  · rw [cap_bad hs] at h; exact absurd h hs

set_option maxRecDepth 100000 in
set_option maxHeartbeats 8000000 in
theorem walkK_TallyAdds (K : TallyK) (v0 v1 v2 : Value) (w : World) (w0 : IsPlan w v0) (w1 : IsSam w v1) (w2 : IsSam w v2) (T : Tab w) :
    Calls Tryd.prog 5 #[v0, v1, v2] w fun e w' => e = .returned (.bool true) ∧ Old w w' := by
  obtain ⟨lo, hi, mo, a, n, cap, es, rfl, F⟩ := w0
  obtain ⟨b, k, ck, xs, rfl, hkc, S⟩ := w1
  obtain ⟨b', m, cm, ys, rfl, hmc, S'⟩ := w2
  have T0 : Hid (Td w lo hi mo a n cap es b k xs b' m ys (w.alloc (.cells #[.int .i64 lo, .int .i64 hi, .int .i64 mo, .slice a n cap] 24))) := ⟨Bx.start cap F, S.mono (Old.of_alloc _ _), S'.mono (Old.of_alloc _ _)⟩
  have C0 := hide (fun (wr : World) (o : Old w wr) => awake12 K wr (T.mono o))
  have C1 := hide (fun (b : Option Addr) (k ck : Nat) (xs : List Int) (wr : World) (o : Old w wr) (h : Fit wr lo hi mo a n es) (h2 : Sam wr b k xs) => (K.encode lo hi mo a n cap es b k ck xs wr h h2 (T.mono o)).mono fun _ _ hh => Ru.of (vecT_length lo hi es (bN lo hi) xs) hh)
  have HK := hide (And.intro S.len S'.len)
  have HO : Hid (soundZ lo hi mo es = 0 → lenN es (bN lo hi) ≤ 256) := fun hs => by
    obtain ⟨h1, _, h3⟩ := sound_of hs
    unfold bad1 at h1
    unfold bad3 at h3
    have := bits_40 (d := (hi - lo).toNat) (by omega)
    unfold lenN bN
    omega
  unfold pv at C1 ⊢
  clear K F S S' hkc hmc T
  by_cases h1 : 150 < k
  · have t1 : decide ((150 : Int) < k) = true := by simp; omega
    go_enter Tryd.func5, Tryd.ntmps5
    go_wp2_with fail
    refine (C0.out _ T0.out.bx.old).mono ?_
    rintro e w1 ⟨rfl, o1⟩
    have O := T0.out.bx.old.trans o1
    clear T0 o1
    go_wp2
    go_ret
    exact ⟨rfl, O⟩
  have t1 : decide ((150 : Int) < k) = false := by simp; omega
  by_cases h2 : 150 < m
  · have t2 : decide ((150 : Int) < m) = true := by simp; omega
    go_enter Tryd.func5, Tryd.ntmps5
    go_wp2_with fail
    refine (C0.out _ T0.out.bx.old).mono ?_
    rintro e w1 ⟨rfl, o1⟩
    have O := T0.out.bx.old.trans o1
    clear T0 o1
    go_wp2
    go_ret
    exact ⟨rfl, O⟩
  have t2 : decide ((150 : Int) < m) = false := by simp; omega
  go_enter Tryd.func5, Tryd.ntmps5
  go_wp2_with fail
  refine (C1.out b k ck xs _ T0.out.bx.old T0.out.bx.fit T0.out.sx).mono ?_
  rintro e w1 ⟨vx, rfl, o1, RX⟩
  have T1 := hide (T0.out.mono o1)
  have RX1 := hide RX
  have HW1 := hide o1.size
  clear T0 o1 RX
  have a0 := T1.out.bx.c0
  have a1 := T1.out.bx.c1
  have a2 := T1.out.bx.c2
  have a3 := T1.out.bx.c3
  go_wp2_with fail
  refine (C1.out b' m cm ys _ T1.out.bx.old T1.out.bx.fit T1.out.sy).mono ?_
  rintro e w2 ⟨vy, rfl, o2, RY⟩
  have T2 := hide (T1.out.mono o2)
  have RX2 := hide (RX1.out.mono o2)
  have RY2 := hide RY
  have GX := hide (show ∀ g t cs, Row w1 g t cs → g < w1.heap.size from fun _ _ _ R => R.lt)
  clear T1 RY a0 a1 a2 a3
  have HG2 := hide (show w1.heap.size ≤ w2.heap.size from o2.size)
  clear o2
  have HF : Hid (capZ (soundZ lo hi mo es) mo (k + m) = 0 → capZ (soundZ lo hi mo es) mo k = 0 ∧ capZ (soundZ lo hi mo es) mo m = 0 ∧ lenN es (bN lo hi) ≤ 256) := fun h => by
    obtain ⟨h1, h2, h3⟩ := cap_sum h
    exact ⟨h1, h2, HO.out h3⟩
  have HV := hide (And.intro (vecT_length lo hi es (bN lo hi) xs) (And.intro (vecT_length lo hi es (bN lo hi) ys) (vecT_length lo hi es (bN lo hi) (xs ++ ys))))
  obtain ⟨ax, nx, cx, hvx⟩ := RX2.out.slice
  obtain ⟨ay, ny, cy, hvy⟩ := RY2.out.slice
  rw [hvx] at RX2 RX1 ⊢
  rw [hvy] at RY2 ⊢
  clear hvx hvy HO
  have C5 := hide (fun (wr : World) (b' : Option Addr) (c : Nat) (o : Old w wr) (h1 : Fit wr lo hi mo a n es) (h2 : Sam wr b' (k + m) (xs ++ ys)) => C1.out b' (k + m) c (xs ++ ys) wr o h1 h2)
  revert C5 HF RX1 RX2 RY2
  generalize capZ (soundZ lo hi mo es) mo (k + m) = f3
  generalize capZ (soundZ lo hi mo es) mo k = f1
  generalize capZ (soundZ lo hi mo es) mo m = f2
  intro HF RX1 RX2 RY2 C5
  clear C1
  go_wp2_with fail
  refine Ssq.region (E1 := PutS w2.heap.size 3 k (ints ys)) (E2 := Old) 6 (fun w' => Old w2 w') [36, 37, 38, 39, 40, 41, 42, 35, 43, 44, 11, 12]
    [(36, Ssx.cst (.agg #[.int .i64 lo, .int .i64 hi, .int .i64 mo, .slice a n cap])), (37, PEs w2.heap.size 3 k (ints ys)), (38, Ssx.cst (.slice b k ck)), (39, PLs w2.heap.size 3 k (ints ys) (ints xs) (fun i hi e _ => by rw [ints_length, HK.out.1] at hi; omega)), (40, Ssx.cst (.slice b' m cm)),
     (41, PLs w2.heap.size 3 k (ints ys) (ints (xs ++ ys)) (fun i hi e _ => by have := HK.out.1; unfold ints; rw [List.map_append, List.getElem?_append_right (by simp; omega)]; congr 1; simp; omega))]
    [(42, RutX w2.heap.size (lenN es (bN lo hi)) f3 (vecT lo hi es (bN lo hi) (xs ++ ys))), (35, RutX w2.heap.size (lenN es (bN lo hi)) f3 (vecT lo hi es (bN lo hi) (xs ++ ys))), (43, RuX w2.heap.size (lenN es (bN lo hi)) f3 (vecT lo hi es (bN lo hi) (xs ++ ys))), (44, Ssx.cst (.int .i64 f3)), (11, RuX w2.heap.size (lenN es (bN lo hi)) f3 (vecT lo hi es (bN lo hi) (xs ++ ys))), (12, Ssx.cst (.int .i64 f3))]
    [] (by kernel_rfl) (by kernel_rfl) (by kernel_rfl) (by kernel_rfl) (by intro p hp; cases hp) (by kernel_rfl) (by kernel_rfl) (by kernel_rfl) (by kernel_rfl) (PutS.refl _ _ _ _) Old.refl (fun w w' h o => PutS.of_old h.size o) (Old.of_drewN _ 1) ?good ?behind
  case good =>
    have hP := PutS.refl w2.heap.size 3 k (ints ys)
    have hCo : ∀ w w' : World, Old w2 w → Old w w' → Old w2 w' := fun _ _ h o => h.trans o
    have hCp : ∀ w w' : World, Old w2 w → PutS w2.heap.size 3 k (ints ys) w w' → Old w2 w' := fun _ _ h e => Below.trans h e.1
    refine And.intro (.inr ⟨by kernel_rfl, Ssx.whole hP rfl rfl w.heap.size [.int .i64 lo, .int .i64 hi, .int .i64 mo, .slice a n cap] (fun _ _ h => h) (fun _ h => (T2.out.mono h).bx.row.rngX) Tryd.underlying24 rfl infoPl (fun _ => rfl)⟩) ?_
    refine And.intro (.inr ⟨by kernel_rfl, Ssx.step rfl fun a' w' hC hop => ⟨.slice (some ⟨w'.heap.size, 0, none⟩) 0 0, w'.alloc (.cells (#[] : Array Value) 3), ?_, hC.trans (Old.of_alloc _ _), PutS.of_old hC.size (Old.of_alloc _ _), ⟨_, hC.size, rfl, Row.new _ _ []⟩⟩⟩) ?_
    · simp [go_sem]
    refine And.intro (.inr ⟨by kernel_rfl, Ssx.mv hP rfl rfl (fun _ _ h => h)⟩) ?_
    refine And.intro (.inr ⟨by kernel_rfl, app0s (fun _ h => h.size) hCo rfl rfl b ck xs HK.out.1 (by omega) (fun _ _ h => h) (fun _ _ h => h) (fun _ h => (T2.out.mono h).sx.rd) (fun _ _ h => h)⟩) ?_
    refine And.intro (.inr ⟨by kernel_rfl, Ssx.mv hP rfl rfl (fun _ _ h => h)⟩) ?_
    refine And.intro (.inr ⟨by kernel_rfl, appS (m := m) (fun _ h => h.size) hCp rfl rfl xs HK.out.1 b' cm HK.out.2 (by omega) (fun _ _ h => h) (fun _ _ h => h) (fun _ h => (T2.out.mono h).sy.rd) (fun _ _ h => h)⟩) ?_
    refine And.intro (.inr ⟨by kernel_rfl, Ssx.call rfl fun a' w' hC hop => ?_⟩) ?_
    · have h0 : a'.eval (.tmp 36) = .agg #[.int .i64 lo, .int .i64 hi, .int .i64 mo, .slice a n cap] := hop 36 (by simp [Op.operands, Call.operands])
      obtain ⟨g', sp, h1, h2, h3⟩ : (PLs w2.heap.size 3 k (ints ys) (ints (xs ++ ys)) (fun i hi e _ => by have := HK.out.1; unfold ints; rw [List.map_append, List.getElem?_append_right (by simp; omega)]; congr 1; simp; omega)).p (a'.eval (.tmp 41)) w' := hop 41 (by simp [Op.operands, Call.operands])
      rw [ints_length, List.length_append, HK.out.1, HK.out.2] at h2
      have AA := T2.out.mono hC
      refine ⟨12, #[.agg #[.int .i64 lo, .int .i64 hi, .int .i64 mo, .slice a n cap], .slice (some ⟨g', 0, none⟩) (k + m) (k + m + sp.length)], ?_, (C5.out w' _ _ AA.bx.old AA.bx.fit ⟨by rw [List.length_append, HK.out.1, HK.out.2], by omega, ?_, ?_⟩).mono ?_⟩
      · simp [Act.eval] at h0 h2
        simp [h0, h2, go_sem]
      · intro e he
        rcases List.mem_append.1 he with h | h
        · exact AA.sx.each e h
        · exact AA.sy.each e h
      · intro i v hv
        refine ⟨g', 0, rfl, ?_⟩
        rw [Nat.zero_add]
        exact h3.cell (by rw [List.getElem?_append_left (List.getElem?_eq_some_iff.1 hv).1]; exact hv)
      · rintro e w'' ⟨v, rfl, o, r⟩
        refine ⟨_, rfl, hC.trans o, o, v, rfl, fun h => ?_, r.2⟩
        obtain ⟨gm, cm, tm, rm, k1, k2, k3⟩ := r.1 h
        exact ⟨gm, cm, tm, rm, k1, Nat.le_trans hC.size k2, k3⟩
    refine And.intro (.inr ⟨by kernel_rfl, Ssx.mv Old.refl rfl rfl (fun _ _ h => h)⟩) ?_
    refine And.intro (.inr ⟨by kernel_rfl, ex_ext Old.refl 0 rfl rfl fun v w' ⟨u, hu, hr⟩ => ⟨_, _, hu, rfl, hr⟩⟩) ?_
    refine And.intro (.inr ⟨by kernel_rfl, ex_ext Old.refl 1 rfl rfl fun v w' ⟨u, hu, hr⟩ => ⟨_, _, hu, rfl, rfl⟩⟩) ?_
    refine And.intro (.inr ⟨by kernel_rfl, Ssx.asg Old.refl rfl rfl (fun _ _ h => h)⟩) ?_
    refine And.intro (.inr ⟨by kernel_rfl, Ssx.asg Old.refl rfl rfl (fun _ _ h => h)⟩) ?_
    exact trivial
  case behind =>
    intro vals wb hC hv hv2
    have r11 : Ru w2.heap.size (lenN es (bN lo hi)) f3 (vecT lo hi es (bN lo hi) (xs ++ ys)) (vals 11) wb := hv2 _ (.tail _ (.tail _ (.tail _ (.tail _ (.head _)))))
    have v12 : vals 12 = .int .i64 f3 := hv2 _ (.tail _ (.tail _ (.tail _ (.tail _ (.tail _ (.head _))))))
    simp only [Ssa.putAll, List.map_cons, List.map_nil, List.foldl_cons, List.foldl_nil, List.setIfInBounds_toArray, List.set_cons_succ, List.set_cons_zero, v12]
    rename_i K0 hK
    refine hK _ wb ?_
    clear hK
    have O3 := hide ((T2.out.mono hC).bx.old)
    have RX3 := hide (RX2.out.mono hC)
    have RY3 := hide (RY2.out.mono hC)
    have HX1 : Hid (f1 = 0 → ∃ g c t rest, Value.slice ax nx cx = .slice (some ⟨g, 0, none⟩) (lenN es (bN lo hi)) c ∧ w.heap.size + 1 ≤ g ∧ g < w1.heap.size ∧ Row wb g t (nums .u32 (vecT lo hi es (bN lo hi) xs) ++ rest)) := fun h => by
      obtain ⟨g, c, t, rest, k1, k2, k3⟩ := RX1.out.1 h
      obtain ⟨g', c', t', rest', l1, l2, l3⟩ := RX3.out.1 h
      obtain ⟨rfl, _, _⟩ : g = g' ∧ _ := by
        have := k1.symm.trans l1
        simp at this
        exact ⟨this.1, trivial⟩
      refine ⟨g, c', t', rest', l1, ?_, k3.lt, l3⟩
      have := k2
      rw [World.size_alloc] at this
      exact this
    clear hv hv2 v12 T2 C5 RX1 RX2 RY2 RX3
    obtain ⟨az, nz, cz, hvz⟩ := r11.slice
    rw [hvz] at r11 ⊢
    have RZ := hide r11
    clear r11 hvz hC
    by_cases z3 : f3 = 0
    · obtain ⟨z1, z2, LB⟩ := HF.out z3
      obtain ⟨gx, cx', tx, rx, kx1, kx2, kx3, kx4⟩ := HX1.out z1
      obtain ⟨gy, cy', ty, ry, ky1, ky2, ky3⟩ := RY3.out.1 z2
      obtain ⟨gz, cz', tz, rz, kz1, kz2, kz3⟩ := RZ.out.1 z3
      rw [kx1, ky1, kz1]
      have hg2 := HG2.out
      have AD : Hid (Ad w gx gy gz tx ty tz (addTo lo hi es (bN lo hi) xs ys 0) (vecT lo hi es (bN lo hi) ys) (vecT lo hi es (bN lo hi) (xs ++ ys)) rx ry rz wb) := ⟨by rw [addTo_zero]; exact kx4, ky3, kz3, O3.out, by omega, by omega, by omega⟩
      subst z1 z2 z3
      clear HX1 RY3 RZ HF O3 kx1 kx2 kx3 kx4 ky1 ky2 ky3 kz1 kz2 kz3 hg2 HG2
      go_wp2_with fail
      refine (C0.out _ AD.out.old).mono ?_
      rintro e w4 ⟨rfl, o4⟩
      have AD1 := hide (AD.out.mono o4)
      clear AD o4 C0
      have VN : Hid (∀ c z u, c < lenN es (bN lo hi) → (addTo lo hi es (bN lo hi) xs ys c)[c]? = some z → (vecT lo hi es (bN lo hi) ys)[c]? = some u → addTo lo hi es (bN lo hi) xs ys (c + 1) = (addTo lo hi es (bN lo hi) xs ys c).set c ((z + u) % 4294967296)) := fun c z u h1 h2 h3 => addTo_next lo hi es (bN lo hi) xs ys h1 h2 h3
      have VG : Hid (∀ c, c < lenN es (bN lo hi) → ∃ z u, (addTo lo hi es (bN lo hi) xs ys c)[c]? = some z ∧ (vecT lo hi es (bN lo hi) ys)[c]? = some u) := fun c hc => ⟨_, _, addTo_get lo hi es (bN lo hi) xs ys c hc, vecT_get lo hi es (bN lo hi) ys hc⟩
      have VL : Hid (∀ c, (addTo lo hi es (bN lo hi) xs ys c).length = lenN es (bN lo hi)) := fun c => addTo_length lo hi es (bN lo hi) xs ys c
      have VA := hide (addTo_all lo hi es (bN lo hi) xs ys)
      revert AD1 VN VG VL VA HV LB
      generalize addTo lo hi es (bN lo hi) xs ys = at_
      generalize vecT lo hi es (bN lo hi) ys = vy
      generalize vecT lo hi es (bN lo hi) xs = vx
      generalize vecT lo hi es (bN lo hi) (xs ++ ys) = vz
      generalize lenN es (bN lo hi) = L
      intro HV LB AD1 VN VG VL VA
      go_wp2_with fail
      go_loopw [13] (fun vi wr => ∃ i : Nat, i ≤ L ∧ vi = .int .i64 (i : Int) ∧ Hid (Ad w gx gy gz tx ty tz (at_ i) vy vz rx ry rz wr)) (fun vi _ => L - (intOf vi).toNat)
      case atStart => exact ⟨0, Nat.zero_le _, rfl, AD1⟩
      case round =>
        clear AD1
        obtain ⟨i, hi', rfl, R⟩ := hrel
        by_cases hl : i < L
        · have t3 : decide (i < L) = true := by simpa using hl
          have t3' : decide ((i : Int) < (L : Int)) = true := by simp; omega
          obtain ⟨z, u, hz, hu⟩ := VG.out i hl
          have c1 := at_front R.out.x hz
          have c2 := at_front R.out.y hu
          have f1 := R.out.x.free i
          have NX := hide (VN.out i z u hl hz hu)
          have R2 := hide (R.out.put (p := i) (by rw [VL.out]; exact hl) ((z + u) % 4294967296))
          rw [← NX.out] at R2
          have ez : IntKind.u32.wrap ((z : Int) + u) = (((z + u) % 4294967296 : Nat) : Int) := by show ((z : Int) + u) % 4294967296 = _; omega
          have q0 : (0 : Int) ≤ i := by omega
          have q1 : (i : Int) < L := by omega
          have q2 : (i : Int) ≤ 256 := by omega
          clear NX hz hu
          revert R2 ez
          generalize (z + u) % 4294967296 = s
          intro R2 ez
          go_wp2_with fail
          go_region
          go_wp2
          go_roundw
          case rel => exact ⟨i + 1, by omega, by go_num, R2.out.mono (Old.of_drewN _ 1)⟩
          case measure => simp [intOf]; omega
        · obtain rfl : i = L := by omega
          have t3 : decide (i < i) = false := by simp
          have t3' : decide ((i : Int) < (i : Int)) = false := by simp
          have R2 := hide R.out
          rw [VA.out] at R2
          clear R
          go_wp2_with fail
          refine (R1.Cells_any i i vz vz (some ⟨gx, 0, none⟩) (some ⟨gz, 0, none⟩) cx' cz' _ (by omega) HV.out.2.2 HV.out.2.2 (rd_front R2.out.x) (rd_front R2.out.z)).mono ?_
          rintro e w5 ⟨rfl, o5⟩
          have O := R2.out.old.trans o5
          clear R2 o5
          go_wp2
          go_ret
          exact ⟨by simp, O⟩
    · have t3 : (f3 != 0) = true := by simpa using z3
      clear HX1 RY3 RZ HF
      have O := O3.out
      go_wp2_with fail
      refine (C0.out _ O).mono ?_
      rintro e w4 ⟨rfl, o4⟩
      have O4 := O.trans o4
      clear o4 O O3
      by_cases z1 : f1 = 0
      · subst z1
        by_cases z2 : f2 = 0
        · subst z2
          go_wp2_with fail
          refine (C0.out _ O4).mono ?_
          rintro e w5 ⟨rfl, o5⟩
          have O5 := O4.trans o5
          go_wp2
          go_ret
          exact ⟨by simp, O5⟩
        · have t2 : (f2 != 0) = true := by simpa using z2
          go_wp2_with fail
          refine (C0.out _ O4).mono ?_
          rintro e w5 ⟨rfl, o5⟩
          have O5 := O4.trans o5
          go_wp2
          go_ret
          exact ⟨by simp, O5⟩
      · have t2 : (f1 != 0) = true := by simpa using z1
        go_wp2_with fail
        refine (C0.out _ O4).mono ?_
        rintro e w5 ⟨rfl, o5⟩
        have O5 := O4.trans o5
        go_wp2
        go_ret
        exact ⟨by simp, O5⟩
end Go.Proofs.YtegegfoogkpncaaDoor
