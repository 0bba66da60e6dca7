/-
  Layer 13 as it landed: what fit, take, readParts answer, and what the pieces of a vector come to.
-/
import Derived.Test.YthaaajepolahfaaStD
import Derived.Test.YthaaajepolahfaaCalm
namespace Go.Proofs.Ythaaajepolahfaa
open Go.RowKit Pn Wd
set_option linter.unusedVariables false

set_option maxHeartbeats 2000000 in
theorem fit_core {b off n bb c c0 c1 c2 : Nat} (S : Nat) (p q : Bool) (w : World) (hc : c < 4294967296)
    (I : Hid (∀ wr : World, Old w wr → Calls Try.prog 49 #[.agg (prv b off n bb c c0 c1 c2).toArray] wr fun e w' => e = .returned (.int .u64 (S : Nat)) ∧ Old wr w'))
    (X : Hid (∀ wr : World, Old w wr → Calls Try.prog 50 #[.slice (some ⟨b, off + (n + 2), none⟩) bb c1, .int .u32 (c : Nat)] wr fun e w' => e = .returned (.bool p) ∧ Old wr w'))
    (Y : Hid (∀ wr : World, Old w wr → Calls Try.prog 50 #[.slice (some ⟨b, off + (n + 2 + bb), none⟩) (2 * bb) c2, .int .u32 (c : Nat)] wr fun e w' => e = .returned (.bool q) ∧ Old wr w')) :
    Calls Try.prog 34 #[.agg (prv b off n bb c c0 c1 c2).toArray] w fun e w' => e = .returned (.bool (decide (S = c) && p && q)) ∧ Old w w' := by
  have B0 : Hid (Bxs w [(w.heap.size, 61, prv b off n bb c c0 c1 c2)] (w.alloc (.cells (prv b off n bb c c0 c1 c2).toArray 61))) := (Bxs.nil w).alloc 61 (prv b off n bb c c0 c1 c2) rfl
  obtain ⟨r, hr⟩ : ∃ r, r = (decide (S = c) && p && q) := ⟨_, rfl⟩
  rw [← hr]
  have ew : IntKind.u64.wrap (c : Int) = (c : Int) := by rw [IntKind.wrap_u64]; omega
  clear hc
  unfold prv at *
  revert I X Y B0
  generalize off + (n + 2) = o1
  generalize off + (n + 2 + bb) = o2
  generalize n + 1 = k
  generalize 2 * bb = b2
  intro I X Y B0
  go_enter Try.func34, Try.ntmps34
  go_wp2_with fail
  revert B0
  generalize (w.alloc (.cells [Value.slice (some ⟨b, off, none⟩) k c0, .int .u32 (c : Nat), .slice (some ⟨b, o1, none⟩) bb c1, .slice (some ⟨b, o2, none⟩) b2 c2].toArray 61)) = wd
  intro B0
  have C1 := hide (fun y : After wd => I.out y.to (B0.out.old.trans y.old))
  have C2 := hide (fun y : After wd => X.out y.to (B0.out.old.trans y.old))
  have C3 := hide (fun y : After wd => Y.out y.to (B0.out.old.trans y.old))
  have ne : Nonempty (After wd) := ⟨⟨_, Old.refl _⟩⟩
  have a0 := fun y : After wd => y.cell ((B0.out.row 0 rfl).cell (i := 0) rfl)
  have a1 := fun y : After wd => y.cell ((B0.out.row 0 rfl).cell (i := 1) rfl)
  have a2 := fun y : After wd => y.cell ((B0.out.row 0 rfl).cell (i := 2) rfl)
  have a3 := fun y : After wd => y.cell ((B0.out.row 0 rfl).cell (i := 3) rfl)
  have O := hide B0.out.old
  clear I X Y B0
  by_cases h1 : S = c
  · subst h1
    have t1 : ((S : Int) == (S : Int)) = true := by simp
    cases p
    · obtain rfl : r = false := by rw [hr]; simp
      clear hr
      refine wp_region_calm (by kernel_rfl) (by kernel_rfl) ?_
      repeat (go_big_quiet_step (first | with_reducible exact calm_of (C1.out _) | with_reducible exact calm_of (C2.out _) | with_reducible exact calm_of (C3.out _)))
      refine wpQuiet_nil ?_
      rintro _ ⟨⟨w3, o3⟩, rfl⟩
      go_wp2
      go_ret
      exact ⟨rfl, O.out.trans o3⟩
    · obtain rfl : r = q := by rw [hr]; simp
      clear hr
      refine wp_region_calm (by kernel_rfl) (by kernel_rfl) ?_
      repeat (go_big_quiet_step (first | with_reducible exact calm_of (C1.out _) | with_reducible exact calm_of (C2.out _) | with_reducible exact calm_of (C3.out _)))
      refine wpQuiet_nil ?_
      rintro _ ⟨⟨w3, o3⟩, rfl⟩
      go_wp2
      go_ret
      exact ⟨rfl, O.out.trans o3⟩
  · obtain rfl : r = false := by rw [hr]; simp [h1]
    clear hr
    have t1 : ((S : Int) == (c : Int)) = false := by simp; omega
    refine wp_region_calm (by kernel_rfl) (by kernel_rfl) ?_
    repeat (go_big_quiet_step (first | with_reducible exact calm_of (C1.out _) | with_reducible exact calm_of (C2.out _) | with_reducible exact calm_of (C3.out _)))
    refine wpQuiet_nil ?_
    rintro _ ⟨⟨w3, o3⟩, rfl⟩
    go_wp2
    go_ret
    exact ⟨rfl, O.out.trans o3⟩

/-- A vector of n edges and bb bits. -/
structure Vp (w : World) (b off n bb : Nat) (vs : List Nat) : Prop where
  vc : Vc w (some ⟨b, off, none⟩) (n + 2 + 3 * bb) vs
  n64 : n ≤ 64
  b40 : bb ≤ 40
theorem Vp.mono {w w' : World} {b off n bb : Nat} {vs : List Nat} (h : Vp w b off n bb vs) (o : Old w w') : Vp w' b off n bb vs := ⟨h.vc.mono o, h.n64, h.b40⟩
theorem Vp.bins {w : World} {b off n bb : Nat} {vs : List Nat} (h : Vp w b off n bb vs) : Vc w (some ⟨b, off, none⟩) (n + 1) (vs.take (n + 1)) := by
  have := h.vc.part 0 (n + 1) (by omega)
  rw [List.drop_zero] at this
  exact this
theorem Vp.places {w : World} {b off n bb : Nat} {vs : List Nat} (h : Vp w b off n bb vs) : Vc w (some ⟨b, off + (n + 2), none⟩) bb ((bitsV n vs).take bb) := h.vc.part (n + 2) bb (by omega)
theorem Vp.squares {w : World} {b off n bb : Nat} {vs : List Nat} (h : Vp w b off n bb vs) : Vc w (some ⟨b, off + (n + 2 + bb), none⟩) (2 * bb) ((bitsV n vs).drop bb) := by
  have h1 := h.vc.part (n + 2 + bb) (2 * bb) (by omega)
  have e : (vs.drop (n + 2 + bb)).take (2 * bb) = (bitsV n vs).drop bb := by
    unfold bitsV
    rw [List.drop_drop, List.take_of_length_le (by rw [List.length_drop, h.vc.len]; omega)]
  rw [e] at h1
  exact h1

theorem fit_any {b off n bb c0 c1 c2 : Nat} {vs : List Nat} (w : World) (V : Vp w b off n bb vs) :
    Calls Try.prog 34 #[.agg (prv b off n bb (cnV n vs) c0 c1 c2).toArray] w fun e w' => e = .returned (.bool (!headV n vs)) ∧ Old w w' := by
  have E : (decide (sumN (vs.take (n + 1)) = cnV n vs) && (!(((bitsV n vs).take bb).any fun x => decide (cnV n vs < x))) && (!(((bitsV n vs).drop bb).any fun x => decide (cnV n vs < x)))) = !headV n vs := by
    have h1 : (bitsV n vs).any (fun x => decide (cnV n vs < x)) = (((bitsV n vs).take bb).any (fun x => decide (cnV n vs < x)) || ((bitsV n vs).drop bb).any fun x => decide (cnV n vs < x)) := by
      rw [← List.any_append, List.take_append_drop]
    unfold headV
    rw [h1]
    by_cases h2 : sumN (vs.take (n + 1)) = cnV n vs
    · simp [h2, Bool.and_comm]
    · simp [h2]
  have := fit_core (b := b) (off := off) (n := n) (bb := bb) (c := cnV n vs) (c0 := c0) (c1 := c1) (c2 := c2) (sumN (vs.take (n + 1))) (!(((bitsV n vs).take bb).any fun x => decide (cnV n vs < x))) (!(((bitsV n vs).drop bb).any fun x => decide (cnV n vs < x))) w (V.vc.lt _)
    (fun wr o => inBins_any wr (V.mono o).bins V.n64) (fun wr o => within_any c1 (cnV n vs) wr (V.mono o).places) (fun wr o => within_any c2 (cnV n vs) wr (V.mono o).squares)
  rw [E] at this
  exact this

set_option maxHeartbeats 1000000 in
theorem take_any (g : Nat) {b off n cap : Nat} (k : Nat) (hk : k < n) (hc : n ≤ cap) (hs : cap ≤ 9223372036854775807 ∨ n ≤ 9223372036854775807) (w : World) (R : Row w g 80 [.slice (some ⟨b, off, none⟩) n cap]) :
    Calls Try.prog 48 #[.pointer (some ⟨g, 0, none⟩), .int .i64 (k : Int)] w fun e w' => e = .returned (.slice (some ⟨b, off, none⟩) k cap) ∧ Row w' g 80 [.slice (some ⟨b, off + k, none⟩) (n - k) (cap - k)] ∧ w.grownBy w' (some g) := by
  have c0 := R.cell (i := 0) rfl
  have f0 := R.free 0
  have R1 := hide (R.set 0 (.slice (some ⟨b, off + k, none⟩) (n - k) (cap - k)))
  have G1 := hide (grown_set w g 0 (.slice (some ⟨b, off + k, none⟩) (n - k) (cap - k)))
  have q0 : (0 : Int) ≤ k := by omega
  have q1 : (k : Int) ≤ cap := by omega
  have q2 : (k : Int) ≤ n := by omega
  have q3 : k ≤ cap := by omega
  have q4 : k ≤ n := by omega
  have q5 : k < cap := by omega
  have q6 : 1 ≤ cap - k := by omega
  clear R
  go_enter Try.func48, Try.ntmps48
  go_wp2_with fail
  go_ret
  exact ⟨rfl, R1.out, G1.out⟩

set_option maxHeartbeats 1000000 in
theorem take_last (g : Nat) {b off cap : Nat} (k : Nat) (hc : k ≤ cap) (h1 : 1 ≤ k) (w : World) (R : Row w g 80 [.slice (some ⟨b, off, none⟩) k cap]) :
    Calls Try.prog 48 #[.pointer (some ⟨g, 0, none⟩), .int .i64 (k : Int)] w fun e w' => e = .returned (.slice (some ⟨b, off, none⟩) k cap) ∧ (∃ v, Row w' g 80 [v]) ∧ w.grownBy w' (some g) := by
  have c0 := R.cell (i := 0) rfl
  have f0 := R.free 0
  have R1 : Hid (∀ v, Row (w.setCell ⟨g, 0, none⟩ v) g 80 [v]) := fun v => R.set 0 v
  have G1 : Hid (∀ v, w.grownBy (w.setCell ⟨g, 0, none⟩ v) (some g)) := fun v => grown_set w g 0 v
  have q0 : (0 : Int) ≤ k := by omega
  have q1 : (k : Int) ≤ cap := by omega
  have q3 : k ≤ cap := hc
  clear R
  by_cases e : k = cap
  · subst e
    go_enter Try.func48, Try.ntmps48
    go_wp2_with fail
    go_ret
    exact ⟨rfl, ⟨_, R1.out _⟩, G1.out _⟩
  · have q5 : k < cap := by omega
    have q6 : 1 ≤ cap - k := by omega
    clear e
    go_enter Try.func48, Try.ntmps48
    go_wp2_with fail
    go_ret
    exact ⟨rfl, ⟨_, R1.out _⟩, G1.out _⟩

/-- Parts that are nothing. -/
def pz : List Value := [.slice none 0 0, .int .u32 0, .slice none 0 0, .slice none 0 0]

set_option maxHeartbeats 4000000 in
theorem readParts_any {w0 : World} {pl : List Value} {gp gq gr b off n bb cm : Nat} {vs : List Nat} (V : Vp w0 b off n bb vs) (hb : 1 ≤ bb) (hm : n + 2 + 3 * bb ≤ cm) (w : World)
    (B : Bxs w0 [(gp, 24, pl), (gq, 61, pz), (gr, 80, [.slice (some ⟨b, off, none⟩) (n + 2 + 3 * bb) cm])] w) :
    Calls Try.prog 47 #[.int .i64 ((n + 1 : Nat) : Int), .int .i64 (bb : Int), .func (.func 48) #[.pointer (some ⟨gr, 0, none⟩)] #[]] w fun e w' => ∃ c0 c1 c2 v, e = .returned (.agg (prv b off n bb (cnV n vs) c0 c1 c2).toArray) ∧ Bxs w0 [(gp, 24, pl), (gq, 61, pz), (gr, 80, [v])] w' := by
  have HV := hide V
  have B0 := hide ((B.alloc 61 pz rfl).alloc 61 pz (g := w.heap.size + 1) (by rw [World.size_alloc]))
  have n64 := V.n64
  have b40 := V.b40
  clear V B
  have T1 := hide (fun wr R => take_any gr (b := b) (off := off) (n := n + 2 + 3 * bb) (cap := cm) (n + 1) (by omega) (by omega) (by omega) wr R)
  have T2 := hide (fun wr R => take_any gr (b := b) (off := off + (n + 1)) (n := n + 2 + 3 * bb - (n + 1)) (cap := cm - (n + 1)) 1 (by omega) (by omega) (by omega) wr R)
  have T3 := hide (fun wr R => take_any gr (b := b) (off := off + (n + 1) + 1) (n := n + 2 + 3 * bb - (n + 1) - 1) (cap := cm - (n + 1) - 1) bb (by omega) (by omega) (by omega) wr R)
  have T4 := hide (fun wr R => take_last gr (b := b) (off := off + (n + 2 + bb)) (cap := cm - (n + 1) - 1 - bb) (2 * bb) (by omega) (by omega) wr R)
  have e1 : n + 2 + 3 * bb - (n + 1) - 1 - bb = 2 * bb := by omega
  have e2 : off + (n + 1) + 1 + bb = off + (n + 2 + bb) := by omega
  have e3 : off + (n + 1) + 1 = off + (n + 2) := by omega
  rw [e1, e2, e3] at T3
  rw [e3] at T2
  clear e1 e2 e3
  unfold prv
  have ew : wrap64 (2 * (bb : Int)) = ((2 * bb : Nat) : Int) := by unfold wrap64; omega
  have HC := fun (wr : World) (o : Old w0 wr) => hide ((HV.out.mono o).vc.at (i := n + 1) (by omega))
  rw [show vs.getD (n + 1) 0 = cnV n vs from rfl] at HC
  clear hb hm n64 b40
  revert T1 T2 T3 T4 HC B0 ew
  generalize off + (n + 2 + bb) = o2
  generalize off + (n + 2) = o1
  generalize off + (n + 1) = oc
  generalize n + 2 + 3 * bb - (n + 1) - 1 = m2
  generalize n + 2 + 3 * bb - (n + 1) = m1
  generalize n + 2 + 3 * bb = m
  generalize cm - (n + 1) - 1 - bb = k3
  generalize cm - (n + 1) - 1 = k2
  generalize cm - (n + 1) = k1
  generalize cnV n vs = c
  generalize 2 * bb = b2
  generalize n + 1 = n1
  intro B0 T1 T2 T3 T4 ew HC
  go_enter Try.func47, Try.ntmps47
  go_wp2_with fail
  refine (T1.out _ (B0.out.row 2 rfl)).mono ?_
  rintro e w1 ⟨rfl, R1, G1⟩
  have B1 := hide (B0.out.grown 2 rfl G1 R1)
  clear T1 B0 R1 G1
  have c0 := (B1.out.row 4 rfl).cell (i := 0) rfl
  have f0 := (B1.out.row 4 rfl).free 0
  have B2 := hide (B1.out.setc 4 rfl 0 (.slice (some ⟨b, off, none⟩) n1 cm))
  go_wp2_with fail
  refine (T2.out _ (B2.out.row 2 rfl)).mono ?_
  rintro e w2 ⟨rfl, R1, G1⟩
  have B3 := hide (B2.out.grown 2 rfl G1 R1)
  clear T2 B1 B2 R1 G1 c0 f0
  have c1 := (B3.out.row 4 rfl).cell (i := 1) rfl
  have f1 := (B3.out.row 4 rfl).free 1
  have cc := (HC _ B3.out.old).out
  have B4 := hide (B3.out.setc 4 rfl 1 (.int .u32 (c : Nat)))
  go_wp2_with fail
  refine (T3.out _ (B4.out.row 2 rfl)).mono ?_
  rintro e w3 ⟨rfl, R1, G1⟩
  have B5 := hide (B4.out.grown 2 rfl G1 R1)
  clear T3 B3 B4 R1 G1 c1 f1 cc
  have c2 := (B5.out.row 4 rfl).cell (i := 2) rfl
  have f2 := (B5.out.row 4 rfl).free 2
  have B6 := hide (B5.out.setc 4 rfl 2 (.slice (some ⟨b, o1, none⟩) bb k2))
  go_wp2_with fail
  refine (T4.out _ (B6.out.row 2 rfl)).mono ?_
  rintro e w4 ⟨rfl, ⟨v, R1⟩, G1⟩
  have B7 := hide (B6.out.grown 2 rfl G1 R1)
  clear T4 B5 B6 R1 G1 c2 f2 HC
  have c3 := (B7.out.row 4 rfl).cell (i := 3) rfl
  have f3 := (B7.out.row 4 rfl).free 3
  have B8 := hide (B7.out.setc 4 rfl 3 (.slice (some ⟨b, o2, none⟩) b2 k3))
  go_wp2_with (first
    | refine wp_load_whole rfl 61 _ rfl (w.heap.size + 1) rfl (B8.out.row 4 rfl) Try.underlying61 rfl infoPr ?_
    | (refine wp_store_whole rfl 61 _ _ rfl w.heap.size rfl [.slice (some ⟨b, off, none⟩) n1 cm, .int .u32 (c : Nat), .slice (some ⟨b, o1, none⟩) bb k2, .slice (some ⟨b, o2, none⟩) b2 k3] rfl (B8.out.row 3 rfl) infoPr rfl (by intro v hv; simp at hv; rcases hv with rfl | rfl | rfl | rfl <;> rfl) ?_; rintro w9 h9
       have E9 := hide (B8.out.store 3 rfl _ h9)
       clear h9))
  refine bodyPost_ret (v := .agg #[.slice (some ⟨b, off, none⟩) n1 cm, .int .u32 (c : Nat), .slice (some ⟨b, o1, none⟩) bb k2, .slice (some ⟨b, o2, none⟩) b2 k3]) (results_whole rfl rfl (E9.out.row 3 rfl) Try.underlying61 rfl infoPr) rfl ⟨cm, k2, k3, v, rfl, ?_⟩
  exact ⟨fun i p hp => E9.out.rows i p (by
    match i, hp with
    | 0, hp => exact hp
    | 1, hp => exact hp
    | 2, hp => exact hp
    | i + 3, hp => simp at hp), fun i j p q hp hq hne => E9.out.nd i j p q (by
    match i, hp with
    | 0, hp => exact hp
    | 1, hp => exact hp
    | 2, hp => exact hp
    | i + 3, hp => simp at hp) (by
    match j, hq with
    | 0, hp => exact hp
    | 1, hp => exact hp
    | 2, hp => exact hp
    | i + 3, hp => simp at hp) hne, E9.out.old⟩

/-- A new block, apart from all boxes. -/
def Nw (w : World) (bs : List (Nat × TypeId × List Value)) (t : TypeId) (zs : List Value) : Ssx.XP Old :=
  ⟨fun v w' => ∃ g, v = .pointer (some ⟨g, 0, none⟩) ∧ (∀ (i : Nat) (p : Nat × TypeId × List Value), bs[i]? = some p → p.1 ≠ g) ∧ w.heap.size ≤ g ∧ Row w' g t zs, fun _ _ _ ⟨g, h1, h2, h3, h4⟩ o => ⟨g, h1, h2, h3, h4.mono o⟩⟩
theorem Bxs.new {w wr : World} {bs : List (Nat × TypeId × List Value)} (h : Bxs w bs wr) (t : TypeId) (zs : List Value) : ∃ g, Value.pointer (some ⟨wr.heap.size, 0, none⟩) = .pointer (some ⟨g, 0, none⟩) ∧ (∀ (i : Nat) (p : Nat × TypeId × List Value), bs[i]? = some p → p.1 ≠ g) ∧ w.heap.size ≤ g ∧ Row (wr.alloc (.cells zs.toArray t)) g t zs :=
  ⟨_, rfl, fun i p hp => by have := (h.rows i p hp).2.lt; omega, h.old.size, Row.new _ _ _⟩
theorem Bxs.put {w wr : World} {bs : List (Nat × TypeId × List Value)} (h : Bxs w bs wr) {g : Nat} {t : TypeId} {vs : List Value} (hne : ∀ (i : Nat) (p : Nat × TypeId × List Value), bs[i]? = some p → p.1 ≠ g) (hg : w.heap.size ≤ g) (R : Row wr g t vs) : Bxs w (bs ++ [(g, t, vs)]) wr := by
  have one : ∀ (i : Nat) (p : Nat × TypeId × List Value), (bs ++ [(g, t, vs)])[i]? = some p → bs[i]? = some p ∨ (i = bs.length ∧ p = (g, t, vs)) := by
    intro i p hp
    by_cases hi : i < bs.length
    · rw [List.getElem?_append_left hi] at hp; exact .inl hp
    · rw [List.getElem?_append_right (by omega)] at hp
      have : i - bs.length = 0 := by
        by_cases h0 : i - bs.length = 0
        · exact h0
        · rw [List.getElem?_eq_none (by simp; omega)] at hp; cases hp
      rw [this] at hp
      exact .inr ⟨by omega, by simpa using hp.symm⟩
  refine ⟨fun i p hp => ?_, fun i j p q hp hq hn => ?_, h.old⟩
  · rcases one i p hp with h1 | ⟨_, rfl⟩
    · exact h.rows i p h1
    · exact ⟨hg, R⟩
  · rcases one i p hp with h1 | ⟨e1, rfl⟩ <;> rcases one j q hq with h2 | ⟨e2, rfl⟩
    · exact h.nd i j p q h1 h2 hn
    · exact hne i p h1
    · exact fun e => hne j q h2 e.symm
    · omega
theorem wz_arr (z : Int) : wz z = .agg (wc z).toArray := rfl

/-- What told hands back, with its bins. -/
def Sd (w : World) (o : Nat) (s : SV) (n : Nat) (bins : List Int) : Ssx.XP Old :=
  ⟨fun v w' => ∃ g, v = sv s (some ⟨g, 0, none⟩) n n ∧ (w.heap.size ≤ g ∧ g ≠ o) ∧ Row w' g 3 (ints bins), fun _ _ _ ⟨g, h1, h2, h3⟩ o => ⟨g, h1, h2, h3.mono o⟩⟩
def Sl13 (w : World) (o : Nat) (n : Nat) (bins : List Int) : Ssx.XP Old :=
  ⟨fun v w' => ∃ g, v = .slice (some ⟨g, 0, none⟩) n n ∧ (w.heap.size ≤ g ∧ g ≠ o) ∧ Row w' g 3 (ints bins), fun _ _ _ ⟨g, h1, h2, h3⟩ o => ⟨g, h1, h2, h3.mono o⟩⟩
theorem sv_one (s : SV) (a : Option Addr) (n cap : Nat) : ∀ v ∈ s.cells a n cap, v.oneCell' = true := by
  intro v hv
  simp [SV.cells] at hv
  rcases hv with rfl | rfl | rfl | rfl | rfl | rfl | rfl <;> rfl

set_option maxRecDepth 100000 in
set_option maxHeartbeats 8000000 in
theorem stats_core {k c : Nat} {PR : List Value} {sp sq : Value} {c0v : Value} (lo P Z X Y W : Int) (m1 m2 m3 m4 m5 : Value) (bins : List Int) (sval : SV) (w : World)
    (hPR : PR = [c0v, .int .u32 (c : Nat), sp, sq]) (hc : c < 4294967296)
    (ep : ∃ a n cap, sp = .slice a n cap) (eq : ∃ a n cap, sq = .slice a n cap) (e0 : ∃ a n cap, c0v = .slice a n cap)
    (C1 : Hid (∀ wr : World, Old w wr → Calls Try.prog 51 #[sp] wr fun e w' => e = .returned (wz P) ∧ Old wr w'))
    (C2 : Hid (∀ wr : World, Calls Try.prog 26 #[.agg #[.int .u64 0, .int .u64 (c : Nat)], wz lo] wr fun e w' => e = .returned m1 ∧ Old wr w'))
    (C3 : Hid (∀ wr : World, Calls Try.prog 25 #[wz P, m1] wr fun e w' => e = .returned (wz Z) ∧ Old wr w'))
    (C4 : Hid (∀ wr : World, Calls Try.prog 52 #[wz lo, .int .i64 1] wr fun e w' => e = .returned m2 ∧ Old wr w'))
    (C5 : Hid (∀ wr : World, Calls Try.prog 26 #[m2, wz P] wr fun e w' => e = .returned (wz X) ∧ Old wr w'))
    (C6 : Hid (∀ wr : World, Calls Try.prog 26 #[wz lo, wz lo] wr fun e w' => e = .returned m3 ∧ Old wr w'))
    (C7 : Hid (∀ wr : World, Calls Try.prog 26 #[.agg #[.int .u64 0, .int .u64 (c : Nat)], m3] wr fun e w' => e = .returned (wz Y) ∧ Old wr w'))
    (C8 : Hid (∀ wr : World, Old w wr → Calls Try.prog 51 #[sq] wr fun e w' => e = .returned m4 ∧ Old wr w'))
    (C9 : Hid (∀ wr : World, Calls Try.prog 25 #[wz X, wz Y] wr fun e w' => e = .returned m5 ∧ Old wr w'))
    (CA : Hid (∀ wr : World, Calls Try.prog 25 #[m4, m5] wr fun e w' => e = .returned (wz W) ∧ Old wr w'))
    (CB : Hid (∀ wr : World, Old w wr → Calls Try.prog 53 #[.agg PR.toArray] wr fun e w' => ∃ g, wr.heap.size ≤ g ∧ e = .returned (.slice (some ⟨g, 0, none⟩) k k) ∧ Row w' g 3 (ints bins) ∧ Old wr w'))
    (CC : Hid (∀ (g : Nat) (wr : World), Calls Try.prog 27 #[.slice (some ⟨g, 0, none⟩) k k, .int .i64 (c : Nat), wz Z, wz W] wr fun e w' => e = .returned (sv sval (some ⟨g, 0, none⟩) k k) ∧ Old wr w')) :
    Calls Try.prog 35 #[.agg PR.toArray, wz lo] w fun e w' => ∃ g, w.heap.size ≤ g ∧ e = .returned (sv sval (some ⟨g, 0, none⟩) k k) ∧ Row w' g 3 (ints bins) ∧ Old w w' := by
  obtain ⟨pa, pn, pc, rfl⟩ := ep
  obtain ⟨qa, qn, qc, rfl⟩ := eq
  obtain ⟨ba, bn, bc, rfl⟩ := e0
  have ew : IntKind.u64.wrap (c : Int) = (c : Int) := by rw [IntKind.wrap_u64]; omega
  have ei : IntKind.i64.wrap (c : Int) = (c : Int) := by rw [IntKind.wrap_i64]; omega
  clear hc
  subst hPR
  simp only [wz_arr] at C1 C2 C3 C4 C5 C6 C7 C9 CA CC ⊢
  have B0 : Hid (Bxs w [(w.heap.size, 61, [.slice ba bn bc, .int .u32 (c : Nat), .slice pa pn pc, .slice qa qn qc]), (w.heap.size + 1, 27, wc lo), (w.heap.size + 1 + 1, 29, stz), (w.heap.size + 1 + 1 + 1, 27, [.int .u64 0, .int .u64 (c : Nat)])] ((((w.alloc (.cells #[.slice ba bn bc, .int .u32 (c : Nat), .slice pa pn pc, .slice qa qn qc] 61)).alloc (.cells (wc lo).toArray 27)).alloc (.cells stz.toArray 29)).alloc (.cells #[.int .u64 0, .int .u64 (c : Nat)] 27))) :=
    ((((Bxs.nil w).alloc 61 [.slice ba bn bc, .int .u32 (c : Nat), .slice pa pn pc, .slice qa qn qc] rfl).alloc 27 (wc lo) (by rw [World.size_alloc])).alloc 29 stz (by simp only [World.size_alloc])).alloc 27 [.int .u64 0, .int .u64 (c : Nat)] (by simp only [World.size_alloc])
  go_enter Try.func35, Try.ntmps35
  go_wp2_with fail
  refine (C1.out _ B0.out.old).mono ?_
  rintro e w1 ⟨rfl, o1⟩
  have BA := hide ((B0.out.mono o1).alloc 27 [.int .u64 0, .int .u64 0] rfl)
  clear B0 o1 C1
  go_wp2_with (refine wp_store_whole rfl 27 _ _ rfl w1.heap.size rfl (wc P) rfl (BA.out.row 4 rfl) infoW rfl (wc_one _) ?_; rintro w9 h9
               have B1 := hide (BA.out.store 4 rfl _ h9)
               clear h9)
  clear BA
  revert B1
  generalize w1.heap.size = g6
  intro B1
  try simp only [Act.put]
  refine Ssz.region (Ext := Old) 6 (fun w' => Bxs w [(w.heap.size, 61, [.slice ba bn bc, .int .u32 (c : Nat), .slice pa pn pc, .slice qa qn qc]), (w.heap.size + 1, 27, wc lo), (w.heap.size + 1 + 1, 29, stz), (w.heap.size + 1 + 1 + 1, 27, [.int .u64 0, .int .u64 (c : Nat)]), (g6, 27, wc P)] w') (Ssz.Apart []) [18, 19, 20, 21, 22, 7]
    [(18, Ssx.cst (.agg (wc P).toArray)), (19, Ssx.cst (.agg #[.int .u64 0, .int .u64 (c : Nat)])), (20, Ssx.cst (.agg (wc lo).toArray)), (21, Ssx.cst (m1)), (22, Ssx.cst (.agg (wc Z).toArray)), (7, (Nw w [(w.heap.size, 61, [.slice ba bn bc, .int .u32 (c : Nat), .slice pa pn pc, .slice qa qn qc]), (w.heap.size + 1, 27, wc lo), (w.heap.size + 1 + 1, 29, stz), (w.heap.size + 1 + 1 + 1, 27, [.int .u64 0, .int .u64 (c : Nat)]), (g6, 27, wc P)] 27 [.int .u64 0, .int .u64 0]))]
    [] (by kernel_rfl) (by kernel_rfl) (by kernel_rfl) (by simp) (by kernel_rfl) (by intro p hp; cases hp) (by kernel_rfl) (by kernel_rfl) Old.refl (B1.out.mono (Old.of_drewN _ _)) ?apart ?good ?behind
  case apart => exact ⟨fun s hs => by simp at hs, fun s hs => by simp at hs⟩
  case good =>
    have hE : ∀ w w' : World, Old w w' → w.heap.size ≤ w'.heap.size := fun _ _ h => h.size
    refine And.intro (.inr ⟨by kernel_rfl, Ssz.keep (Ssx.whole Old.refl rfl rfl (g6) (wc P) (fun _ _ h => h) (fun _ h => (h.row 4 rfl).rngX) Try.underlying27 rfl infoW (fun _ => rfl)) hE (by kernel_rfl)⟩) ?_
    refine And.intro (.inr ⟨by kernel_rfl, Ssz.keep (Ssx.whole Old.refl rfl rfl (w.heap.size + 1 + 1 + 1) ([.int .u64 0, .int .u64 (c : Nat)]) (fun _ _ h => h) (fun _ h => (h.row 3 rfl).rngX) Try.underlying27 rfl infoW (fun _ => rfl)) hE (by kernel_rfl)⟩) ?_
    refine And.intro (.inr ⟨by kernel_rfl, Ssz.keep (Ssx.whole Old.refl rfl rfl (w.heap.size + 1) (wc lo) (fun _ _ h => h) (fun _ h => (h.row 1 rfl).rngX) Try.underlying27 rfl infoW (fun _ => rfl)) hE (by kernel_rfl)⟩) ?_
    refine And.intro (.inr ⟨by kernel_rfl, Ssz.keep (Ssx.call rfl fun a' w' hC hop => ⟨26, #[.agg #[.int .u64 0, .int .u64 (c : Nat)], .agg (wc lo).toArray], ?_, (C2.out w').mono fun _ _ ⟨h1, h2⟩ => ⟨_, h1, hC.mono h2, h2, rfl⟩⟩) hE (by kernel_rfl)⟩) ?_
    · have h0 : a'.eval (.tmp 19) = .agg #[.int .u64 0, .int .u64 (c : Nat)] := hop 19 (by simp [Op.operands, Call.operands])
      have h1 : a'.eval (.tmp 20) = .agg (wc lo).toArray := hop 20 (by simp [Op.operands, Call.operands])
      simp [Act.eval] at h0 h1
      simp [h0, h1, go_sem]
    refine And.intro (.inr ⟨by kernel_rfl, Ssz.keep (Ssx.call rfl fun a' w' hC hop => ⟨25, #[.agg (wc P).toArray, m1], ?_, (C3.out w').mono fun _ _ ⟨h1, h2⟩ => ⟨_, h1, hC.mono h2, h2, rfl⟩⟩) hE (by kernel_rfl)⟩) ?_
    · have h0 : a'.eval (.tmp 18) = .agg (wc P).toArray := hop 18 (by simp [Op.operands, Call.operands])
      have h1 : a'.eval (.tmp 21) = m1 := hop 21 (by simp [Op.operands, Call.operands])
      simp [Act.eval] at h0 h1
      simp [h0, h1, go_sem]
    refine And.intro (.inr ⟨by kernel_rfl, Ssz.alloc (zs := [.int .u64 0, .int .u64 0]) rfl rfl (fun w => by kernel_rfl) (fun _ h => h.mono (Old.of_alloc _ _)) (fun w => Old.of_alloc _ _) (fun v h => h.new 27 [.int .u64 0, .int .u64 0])⟩) ?_
    exact trivial
  case behind =>
    intro vals wb hC hD hv
    have v3_18 : vals 18 = _ := hv _ (.head _)
    have v3_19 : vals 19 = _ := hv _ (.tail _ (.head _))
    have v3_20 : vals 20 = _ := hv _ (.tail _ (.tail _ (.head _)))
    have v3_21 : vals 21 = _ := hv _ (.tail _ (.tail _ (.tail _ (.head _))))
    have v3_22 : vals 22 = _ := hv _ (.tail _ (.tail _ (.tail _ (.tail _ (.head _)))))
    have v3_7 := hv _ (.tail _ (.tail _ (.tail _ (.tail _ (.tail _ (.head _))))))
    obtain ⟨g7, hg, ne, le, Z9⟩ := v3_7
    simp only [Ssa.putAll, List.map_cons, List.map_nil, List.foldl_cons, List.foldl_nil, List.setIfInBounds_toArray, List.set_cons_succ, List.set_cons_zero, v3_18, v3_19, v3_20, v3_21, v3_22, hg, List.drop_succ_cons, List.drop_zero]
    have BN := hide (hC.put ne le Z9)
    clear hC hD hv ne le Z9 hg v3_18 v3_19 v3_20 v3_21 v3_22 B1
    clear vals
    go_wp2_with (refine wp_store_whole rfl 27 _ _ rfl g7 rfl (wc Z) rfl (BN.out.row 5 rfl) infoW rfl (wc_one _) ?_; rintro w9 h9
                 have B3x := hide (BN.out.store 5 rfl _ h9)
                 clear h9)
    clear BN
    clear wb
    try simp only [Act.put]
    refine Ssz.region (Ext := Old) 5 (fun w' => Bxs w [(w.heap.size, 61, [.slice ba bn bc, .int .u32 (c : Nat), .slice pa pn pc, .slice qa qn qc]), (w.heap.size + 1, 27, wc lo), (w.heap.size + 1 + 1, 29, stz), (w.heap.size + 1 + 1 + 1, 27, [.int .u64 0, .int .u64 (c : Nat)]), (g6, 27, wc P), (g7, 27, wc Z)] w') (Ssz.Apart []) [23, 24, 25, 26, 8]
      [(23, Ssx.cst (.agg (wc lo).toArray)), (24, Ssx.cst (m2)), (25, Ssx.cst (.agg (wc P).toArray)), (26, Ssx.cst (.agg (wc X).toArray)), (8, (Nw w [(w.heap.size, 61, [.slice ba bn bc, .int .u32 (c : Nat), .slice pa pn pc, .slice qa qn qc]), (w.heap.size + 1, 27, wc lo), (w.heap.size + 1 + 1, 29, stz), (w.heap.size + 1 + 1 + 1, 27, [.int .u64 0, .int .u64 (c : Nat)]), (g6, 27, wc P), (g7, 27, wc Z)] 27 [.int .u64 0, .int .u64 0]))]
      [] (by kernel_rfl) (by kernel_rfl) (by kernel_rfl) (by simp) (by kernel_rfl) (by intro p hp; cases hp) (by kernel_rfl) (by kernel_rfl) Old.refl (B3x.out.mono (Old.of_drewN _ _)) ?apart ?good ?behind
    case apart => exact ⟨fun s hs => by simp at hs, fun s hs => by simp at hs⟩
    case good =>
      have hE : ∀ w w' : World, Old w w' → w.heap.size ≤ w'.heap.size := fun _ _ h => h.size
      refine And.intro (.inr ⟨by kernel_rfl, Ssz.keep (Ssx.whole Old.refl rfl rfl (w.heap.size + 1) (wc lo) (fun _ _ h => h) (fun _ h => (h.row 1 rfl).rngX) Try.underlying27 rfl infoW (fun _ => rfl)) hE (by kernel_rfl)⟩) ?_
      refine And.intro (.inr ⟨by kernel_rfl, Ssz.keep (Ssx.call rfl fun a' w' hC hop => ⟨52, #[.agg (wc lo).toArray, .int .i64 1], ?_, (C4.out w').mono fun _ _ ⟨h1, h2⟩ => ⟨_, h1, hC.mono h2, h2, rfl⟩⟩) hE (by kernel_rfl)⟩) ?_
      · have h0 : a'.eval (.tmp 23) = .agg (wc lo).toArray := hop 23 (by simp [Op.operands, Call.operands])
        simp [Act.eval] at h0
        simp [h0, go_sem]
      refine And.intro (.inr ⟨by kernel_rfl, Ssz.keep (Ssx.whole Old.refl rfl rfl (g6) (wc P) (fun _ _ h => h) (fun _ h => (h.row 4 rfl).rngX) Try.underlying27 rfl infoW (fun _ => rfl)) hE (by kernel_rfl)⟩) ?_
      refine And.intro (.inr ⟨by kernel_rfl, Ssz.keep (Ssx.call rfl fun a' w' hC hop => ⟨26, #[m2, .agg (wc P).toArray], ?_, (C5.out w').mono fun _ _ ⟨h1, h2⟩ => ⟨_, h1, hC.mono h2, h2, rfl⟩⟩) hE (by kernel_rfl)⟩) ?_
      · have h0 : a'.eval (.tmp 24) = m2 := hop 24 (by simp [Op.operands, Call.operands])
        have h1 : a'.eval (.tmp 25) = .agg (wc P).toArray := hop 25 (by simp [Op.operands, Call.operands])
        simp [Act.eval] at h0 h1
        simp [h0, h1, go_sem]
      refine And.intro (.inr ⟨by kernel_rfl, Ssz.alloc (zs := [.int .u64 0, .int .u64 0]) rfl rfl (fun w => by kernel_rfl) (fun _ h => h.mono (Old.of_alloc _ _)) (fun w => Old.of_alloc _ _) (fun v h => h.new 27 [.int .u64 0, .int .u64 0])⟩) ?_
      exact trivial
    case behind =>
      intro vals wb hC hD hv
      have v4_23 : vals 23 = _ := hv _ (.head _)
      have v4_24 : vals 24 = _ := hv _ (.tail _ (.head _))
      have v4_25 : vals 25 = _ := hv _ (.tail _ (.tail _ (.head _)))
      have v4_26 : vals 26 = _ := hv _ (.tail _ (.tail _ (.tail _ (.head _))))
      have v4_8 := hv _ (.tail _ (.tail _ (.tail _ (.tail _ (.head _)))))
      obtain ⟨g8, hg, ne, le, Z9⟩ := v4_8
      simp only [Ssa.putAll, List.map_cons, List.map_nil, List.foldl_cons, List.foldl_nil, List.setIfInBounds_toArray, List.set_cons_succ, List.set_cons_zero, v4_23, v4_24, v4_25, v4_26, hg, List.drop_succ_cons, List.drop_zero]
      have BN := hide (hC.put ne le Z9)
      clear hC hD hv ne le Z9 hg v4_23 v4_24 v4_25 v4_26 B3x
      clear vals
      go_wp2_with (refine wp_store_whole rfl 27 _ _ rfl g8 rfl (wc X) rfl (BN.out.row 6 rfl) infoW rfl (wc_one _) ?_; rintro w9 h9
                   have B4x := hide (BN.out.store 6 rfl _ h9)
                   clear h9)
      clear BN
      clear wb
      try simp only [Act.put]
      refine Ssz.region (Ext := Old) 6 (fun w' => Bxs w [(w.heap.size, 61, [.slice ba bn bc, .int .u32 (c : Nat), .slice pa pn pc, .slice qa qn qc]), (w.heap.size + 1, 27, wc lo), (w.heap.size + 1 + 1, 29, stz), (w.heap.size + 1 + 1 + 1, 27, [.int .u64 0, .int .u64 (c : Nat)]), (g6, 27, wc P), (g7, 27, wc Z), (g8, 27, wc X)] w') (Ssz.Apart []) [27, 28, 29, 30, 31, 9]
        [(27, Ssx.cst (.agg #[.int .u64 0, .int .u64 (c : Nat)])), (28, Ssx.cst (.agg (wc lo).toArray)), (29, Ssx.cst (.agg (wc lo).toArray)), (30, Ssx.cst (m3)), (31, Ssx.cst (.agg (wc Y).toArray)), (9, (Nw w [(w.heap.size, 61, [.slice ba bn bc, .int .u32 (c : Nat), .slice pa pn pc, .slice qa qn qc]), (w.heap.size + 1, 27, wc lo), (w.heap.size + 1 + 1, 29, stz), (w.heap.size + 1 + 1 + 1, 27, [.int .u64 0, .int .u64 (c : Nat)]), (g6, 27, wc P), (g7, 27, wc Z), (g8, 27, wc X)] 27 [.int .u64 0, .int .u64 0]))]
        [] (by kernel_rfl) (by kernel_rfl) (by kernel_rfl) (by simp) (by kernel_rfl) (by intro p hp; cases hp) (by kernel_rfl) (by kernel_rfl) Old.refl (B4x.out.mono (Old.of_drewN _ _)) ?apart ?good ?behind
      case apart => exact ⟨fun s hs => by simp at hs, fun s hs => by simp at hs⟩
      case good =>
        have hE : ∀ w w' : World, Old w w' → w.heap.size ≤ w'.heap.size := fun _ _ h => h.size
        refine And.intro (.inr ⟨by kernel_rfl, Ssz.keep (Ssx.whole Old.refl rfl rfl (w.heap.size + 1 + 1 + 1) ([.int .u64 0, .int .u64 (c : Nat)]) (fun _ _ h => h) (fun _ h => (h.row 3 rfl).rngX) Try.underlying27 rfl infoW (fun _ => rfl)) hE (by kernel_rfl)⟩) ?_
        refine And.intro (.inr ⟨by kernel_rfl, Ssz.keep (Ssx.whole Old.refl rfl rfl (w.heap.size + 1) (wc lo) (fun _ _ h => h) (fun _ h => (h.row 1 rfl).rngX) Try.underlying27 rfl infoW (fun _ => rfl)) hE (by kernel_rfl)⟩) ?_
        refine And.intro (.inr ⟨by kernel_rfl, Ssz.keep (Ssx.whole Old.refl rfl rfl (w.heap.size + 1) (wc lo) (fun _ _ h => h) (fun _ h => (h.row 1 rfl).rngX) Try.underlying27 rfl infoW (fun _ => rfl)) hE (by kernel_rfl)⟩) ?_
        refine And.intro (.inr ⟨by kernel_rfl, Ssz.keep (Ssx.call rfl fun a' w' hC hop => ⟨26, #[.agg (wc lo).toArray, .agg (wc lo).toArray], ?_, (C6.out w').mono fun _ _ ⟨h1, h2⟩ => ⟨_, h1, hC.mono h2, h2, rfl⟩⟩) hE (by kernel_rfl)⟩) ?_
        · have h0 : a'.eval (.tmp 28) = .agg (wc lo).toArray := hop 28 (by simp [Op.operands, Call.operands])
          have h1 : a'.eval (.tmp 29) = .agg (wc lo).toArray := hop 29 (by simp [Op.operands, Call.operands])
          simp [Act.eval] at h0 h1
          simp [h0, h1, go_sem]
        refine And.intro (.inr ⟨by kernel_rfl, Ssz.keep (Ssx.call rfl fun a' w' hC hop => ⟨26, #[.agg #[.int .u64 0, .int .u64 (c : Nat)], m3], ?_, (C7.out w').mono fun _ _ ⟨h1, h2⟩ => ⟨_, h1, hC.mono h2, h2, rfl⟩⟩) hE (by kernel_rfl)⟩) ?_
        · have h0 : a'.eval (.tmp 27) = .agg #[.int .u64 0, .int .u64 (c : Nat)] := hop 27 (by simp [Op.operands, Call.operands])
          have h1 : a'.eval (.tmp 30) = m3 := hop 30 (by simp [Op.operands, Call.operands])
          simp [Act.eval] at h0 h1
          simp [h0, h1, go_sem]
        refine And.intro (.inr ⟨by kernel_rfl, Ssz.alloc (zs := [.int .u64 0, .int .u64 0]) rfl rfl (fun w => by kernel_rfl) (fun _ h => h.mono (Old.of_alloc _ _)) (fun w => Old.of_alloc _ _) (fun v h => h.new 27 [.int .u64 0, .int .u64 0])⟩) ?_
        exact trivial
      case behind =>
        intro vals wb hC hD hv
        have v5_27 : vals 27 = _ := hv _ (.head _)
        have v5_28 : vals 28 = _ := hv _ (.tail _ (.head _))
        have v5_29 : vals 29 = _ := hv _ (.tail _ (.tail _ (.head _)))
        have v5_30 : vals 30 = _ := hv _ (.tail _ (.tail _ (.tail _ (.head _))))
        have v5_31 : vals 31 = _ := hv _ (.tail _ (.tail _ (.tail _ (.tail _ (.head _)))))
        have v5_9 := hv _ (.tail _ (.tail _ (.tail _ (.tail _ (.tail _ (.head _))))))
        obtain ⟨g9, hg, ne, le, Z9⟩ := v5_9
        simp only [Ssa.putAll, List.map_cons, List.map_nil, List.foldl_cons, List.foldl_nil, List.setIfInBounds_toArray, List.set_cons_succ, List.set_cons_zero, v5_27, v5_28, v5_29, v5_30, v5_31, hg, List.drop_succ_cons, List.drop_zero]
        have BN := hide (hC.put ne le Z9)
        clear hC hD hv ne le Z9 hg v5_27 v5_28 v5_29 v5_30 v5_31 B4x
        clear vals
        go_wp2_with (refine wp_store_whole rfl 27 _ _ rfl g9 rfl (wc Y) rfl (BN.out.row 7 rfl) infoW rfl (wc_one _) ?_; rintro w9 h9
                     have B5x := hide (BN.out.store 7 rfl _ h9)
                     clear h9)
        clear BN
        clear wb
        try simp only [Act.put]
        refine Ssz.region (Ext := Old) 8 (fun w' => Bxs w [(w.heap.size, 61, [.slice ba bn bc, .int .u32 (c : Nat), .slice pa pn pc, .slice qa qn qc]), (w.heap.size + 1, 27, wc lo), (w.heap.size + 1 + 1, 29, stz), (w.heap.size + 1 + 1 + 1, 27, [.int .u64 0, .int .u64 (c : Nat)]), (g6, 27, wc P), (g7, 27, wc Z), (g8, 27, wc X), (g9, 27, wc Y)] w') (Ssz.Apart []) [32, 33, 34, 35, 36, 37, 38, 10]
          [(32, Ssx.cst (.pointer (some ⟨w.heap.size, 3, none⟩))), (33, Ssx.cst (.slice qa qn qc)), (34, Ssx.cst (m4)), (35, Ssx.cst (.agg (wc X).toArray)), (36, Ssx.cst (.agg (wc Y).toArray)), (37, Ssx.cst (m5)), (38, Ssx.cst (.agg (wc W).toArray)), (10, (Nw w [(w.heap.size, 61, [.slice ba bn bc, .int .u32 (c : Nat), .slice pa pn pc, .slice qa qn qc]), (w.heap.size + 1, 27, wc lo), (w.heap.size + 1 + 1, 29, stz), (w.heap.size + 1 + 1 + 1, 27, [.int .u64 0, .int .u64 (c : Nat)]), (g6, 27, wc P), (g7, 27, wc Z), (g8, 27, wc X), (g9, 27, wc Y)] 27 [.int .u64 0, .int .u64 0]))]
          [] (by kernel_rfl) (by kernel_rfl) (by kernel_rfl) (by simp) (by kernel_rfl) (by intro p hp; cases hp) (by kernel_rfl) (by kernel_rfl) Old.refl (B5x.out.mono (Old.of_drewN _ _)) ?apart ?good ?behind
        case apart => exact ⟨fun s hs => by simp at hs, fun s hs => by simp at hs⟩
        case good =>
          have hE : ∀ w w' : World, Old w w' → w.heap.size ≤ w'.heap.size := fun _ _ h => h.size
          refine And.intro (.inr ⟨by kernel_rfl, Ssz.keep (Ssx.val1 Old.refl (x := 2) (.pointer (some ⟨w.heap.size, 0, none⟩)) (by simp [Op.operands]) rfl (fun _ _ h => h) (fun ρ h1 hc w => by unfold execOp; simp [h1, go_sem]) (fun _ => rfl)) hE (by kernel_rfl)⟩) ?_
          refine And.intro (.inr ⟨by kernel_rfl, Ssz.keep (Ssy.cell Old.refl rfl rfl (⟨w.heap.size, 3, none⟩) (.slice qa qn qc) (fun _ _ h => h) (fun _ h => (h.row 0 rfl).cell (i := 3) rfl) Try.underlying59 rfl (fun _ => rfl)) hE (by kernel_rfl)⟩) ?_
          refine And.intro (.inr ⟨by kernel_rfl, Ssz.keep (Ssx.call rfl fun a' w' hC hop => ⟨51, #[.slice qa qn qc], ?_, (C8.out w' hC.old).mono fun _ _ ⟨h1, h2⟩ => ⟨_, h1, hC.mono h2, h2, rfl⟩⟩) hE (by kernel_rfl)⟩) ?_
          · have h0 : a'.eval (.tmp 33) = .slice qa qn qc := hop 33 (by simp [Op.operands, Call.operands])
            simp [Act.eval] at h0
            simp [h0, go_sem]
          refine And.intro (.inr ⟨by kernel_rfl, Ssz.keep (Ssx.whole Old.refl rfl rfl (g8) (wc X) (fun _ _ h => h) (fun _ h => (h.row 6 rfl).rngX) Try.underlying27 rfl infoW (fun _ => rfl)) hE (by kernel_rfl)⟩) ?_
          refine And.intro (.inr ⟨by kernel_rfl, Ssz.keep (Ssx.whole Old.refl rfl rfl (g9) (wc Y) (fun _ _ h => h) (fun _ h => (h.row 7 rfl).rngX) Try.underlying27 rfl infoW (fun _ => rfl)) hE (by kernel_rfl)⟩) ?_
          refine And.intro (.inr ⟨by kernel_rfl, Ssz.keep (Ssx.call rfl fun a' w' hC hop => ⟨25, #[.agg (wc X).toArray, .agg (wc Y).toArray], ?_, (C9.out w').mono fun _ _ ⟨h1, h2⟩ => ⟨_, h1, hC.mono h2, h2, rfl⟩⟩) hE (by kernel_rfl)⟩) ?_
          · have h0 : a'.eval (.tmp 35) = .agg (wc X).toArray := hop 35 (by simp [Op.operands, Call.operands])
            have h1 : a'.eval (.tmp 36) = .agg (wc Y).toArray := hop 36 (by simp [Op.operands, Call.operands])
            simp [Act.eval] at h0 h1
            simp [h0, h1, go_sem]
          refine And.intro (.inr ⟨by kernel_rfl, Ssz.keep (Ssx.call rfl fun a' w' hC hop => ⟨25, #[m4, m5], ?_, (CA.out w').mono fun _ _ ⟨h1, h2⟩ => ⟨_, h1, hC.mono h2, h2, rfl⟩⟩) hE (by kernel_rfl)⟩) ?_
          · have h0 : a'.eval (.tmp 34) = m4 := hop 34 (by simp [Op.operands, Call.operands])
            have h1 : a'.eval (.tmp 37) = m5 := hop 37 (by simp [Op.operands, Call.operands])
            simp [Act.eval] at h0 h1
            simp [h0, h1, go_sem]
          refine And.intro (.inr ⟨by kernel_rfl, Ssz.alloc (zs := [.int .u64 0, .int .u64 0]) rfl rfl (fun w => by kernel_rfl) (fun _ h => h.mono (Old.of_alloc _ _)) (fun w => Old.of_alloc _ _) (fun v h => h.new 27 [.int .u64 0, .int .u64 0])⟩) ?_
          exact trivial
        case behind =>
          intro vals wb hC hD hv
          have v6_32 : vals 32 = _ := hv _ (.head _)
          have v6_33 : vals 33 = _ := hv _ (.tail _ (.head _))
          have v6_34 : vals 34 = _ := hv _ (.tail _ (.tail _ (.head _)))
          have v6_35 : vals 35 = _ := hv _ (.tail _ (.tail _ (.tail _ (.head _))))
          have v6_36 : vals 36 = _ := hv _ (.tail _ (.tail _ (.tail _ (.tail _ (.head _)))))
          have v6_37 : vals 37 = _ := hv _ (.tail _ (.tail _ (.tail _ (.tail _ (.tail _ (.head _))))))
          have v6_38 : vals 38 = _ := hv _ (.tail _ (.tail _ (.tail _ (.tail _ (.tail _ (.tail _ (.head _)))))))
          have v6_10 := hv _ (.tail _ (.tail _ (.tail _ (.tail _ (.tail _ (.tail _ (.tail _ (.head _))))))))
          obtain ⟨g10, hg, ne, le, Z9⟩ := v6_10
          simp only [Ssa.putAll, List.map_cons, List.map_nil, List.foldl_cons, List.foldl_nil, List.setIfInBounds_toArray, List.set_cons_succ, List.set_cons_zero, v6_32, v6_33, v6_34, v6_35, v6_36, v6_37, v6_38, hg, List.drop_succ_cons, List.drop_zero]
          have BN := hide (hC.put ne le Z9)
          clear hC hD hv ne le Z9 hg v6_32 v6_33 v6_34 v6_35 v6_36 v6_37 v6_38 B5x
          clear vals
          go_wp2_with (refine wp_store_whole rfl 27 _ _ rfl g10 rfl (wc W) rfl (BN.out.row 8 rfl) infoW rfl (wc_one _) ?_; rintro w9 h9
                       have B6x := hide (BN.out.store 8 rfl _ h9)
                       clear h9)
          clear BN
          clear wb
          try simp only [Act.put]
          refine Ssz.region (Ext := Old) 8 (fun w' => Bxs w [(w.heap.size, 61, [.slice ba bn bc, .int .u32 (c : Nat), .slice pa pn pc, .slice qa qn qc]), (w.heap.size + 1, 27, wc lo), (w.heap.size + 1 + 1, 29, stz), (w.heap.size + 1 + 1 + 1, 27, [.int .u64 0, .int .u64 (c : Nat)]), (g6, 27, wc P), (g7, 27, wc Z), (g8, 27, wc X), (g9, 27, wc Y), (g10, 27, wc W)] w') (Ssz.Apart []) [39, 40, 41, 42, 43, 44, 45, 46]
            [(39, Ssx.cst (.agg #[.slice ba bn bc, .int .u32 (c : Nat), .slice pa pn pc, .slice qa qn qc])), (40, (Sl13 w (w.heap.size + 1 + 1) k bins)), (41, Ssx.cst (.pointer (some ⟨w.heap.size, 1, none⟩))), (42, Ssx.cst (.int .u32 (c : Int))), (43, Ssx.cst (.int .i64 (c : Int))), (44, Ssx.cst (.agg (wc Z).toArray)), (45, Ssx.cst (.agg (wc W).toArray)), (46, (Sd w (w.heap.size + 1 + 1) sval k bins))]
            [] (by kernel_rfl) (by kernel_rfl) (by kernel_rfl) (by simp) (by kernel_rfl) (by intro p hp; cases hp) (by kernel_rfl) (by kernel_rfl) Old.refl (B6x.out.mono (Old.of_drewN _ _)) ?apart ?good ?behind
          case apart => exact ⟨fun s hs => by simp at hs, fun s hs => by simp at hs⟩
          case good =>
            have hE : ∀ w w' : World, Old w w' → w.heap.size ≤ w'.heap.size := fun _ _ h => h.size
            refine And.intro (.inr ⟨by kernel_rfl, Ssz.keep (Ssx.whole Old.refl rfl rfl (w.heap.size) ([.slice ba bn bc, .int .u32 (c : Nat), .slice pa pn pc, .slice qa qn qc]) (fun _ _ h => h) (fun _ h => (h.row 0 rfl).rngX) Try.underlying61 rfl infoPr (fun _ => rfl)) hE (by kernel_rfl)⟩) ?_
            refine And.intro (.inr ⟨by kernel_rfl, Ssz.keep (Ssx.call rfl fun a' w' hC hop => ⟨53, #[.agg #[.slice ba bn bc, .int .u32 (c : Nat), .slice pa pn pc, .slice qa qn qc]], ?_, (CB.out w' hC.old).mono fun _ _ ⟨g, lg, h1, h2, h3⟩ => ⟨_, h1, hC.mono h3, h3, ⟨g, rfl, ⟨Nat.le_trans hC.old.size lg, by have := (hC.row 2 rfl).lt; omega⟩, h2⟩⟩⟩) hE (by kernel_rfl)⟩) ?_
            · have h0 : a'.eval (.tmp 39) = .agg #[.slice ba bn bc, .int .u32 (c : Nat), .slice pa pn pc, .slice qa qn qc] := hop 39 (by simp [Op.operands, Call.operands])
              simp [Act.eval] at h0
              simp [h0, go_sem]
            refine And.intro (.inr ⟨by kernel_rfl, Ssz.keep (Ssx.val1 Old.refl (x := 2) (.pointer (some ⟨w.heap.size, 0, none⟩)) (by simp [Op.operands]) rfl (fun _ _ h => h) (fun ρ h1 hc w => by unfold execOp; simp [h1, go_sem]) (fun _ => rfl)) hE (by kernel_rfl)⟩) ?_
            refine And.intro (.inr ⟨by kernel_rfl, Ssz.keep (Ssy.cell Old.refl rfl rfl (⟨w.heap.size, 1, none⟩) (.int .u32 (c : Int)) (fun _ _ h => h) (fun _ h => (h.row 0 rfl).cell (i := 1) rfl) Try.underlying43 rfl (fun _ => rfl)) hE (by kernel_rfl)⟩) ?_
            refine And.intro (.inr ⟨by kernel_rfl, Ssz.keep (Ssx.val1 Old.refl (x := 42) (.int .u32 (c : Int)) (by simp [Op.operands]) rfl (fun _ _ h => h) (fun ρ h1 hc w => by unfold execOp; simp [h1, ei, go_sem]) (fun _ => rfl)) hE (by kernel_rfl)⟩) ?_
            refine And.intro (.inr ⟨by kernel_rfl, Ssz.keep (Ssx.whole Old.refl rfl rfl (g7) (wc Z) (fun _ _ h => h) (fun _ h => (h.row 5 rfl).rngX) Try.underlying27 rfl infoW (fun _ => rfl)) hE (by kernel_rfl)⟩) ?_
            refine And.intro (.inr ⟨by kernel_rfl, Ssz.keep (Ssx.whole Old.refl rfl rfl (g10) (wc W) (fun _ _ h => h) (fun _ h => (h.row 8 rfl).rngX) Try.underlying27 rfl infoW (fun _ => rfl)) hE (by kernel_rfl)⟩) ?_
            refine And.intro (.inr ⟨by kernel_rfl, Ssz.keep (Ssx.call rfl fun a' w' hC hop => by
            obtain ⟨g, h0, lg, RG⟩ := hop 40 (by simp [Op.operands, Call.operands])
            have h1 : a'.eval (.tmp 43) = .int .i64 (c : Int) := hop 43 (by simp [Op.operands, Call.operands])
            have h2 : a'.eval (.tmp 44) = .agg (wc Z).toArray := hop 44 (by simp [Op.operands, Call.operands])
            have h3 : a'.eval (.tmp 45) = .agg (wc W).toArray := hop 45 (by simp [Op.operands, Call.operands])
            refine ⟨27, #[.slice (some ⟨g, 0, none⟩) k k, .int .i64 (c : Int), .agg (wc Z).toArray, .agg (wc W).toArray], ?_, (CC.out g w').mono fun _ _ ⟨q1, q2⟩ => ⟨_, q1, hC.mono q2, q2, ⟨g, rfl, lg, RG.mono q2⟩⟩⟩
            simp [Act.eval] at h0 h1 h2 h3
            simp [h0, h1, h2, h3, go_sem]) hE (by kernel_rfl)⟩) ?_
            exact trivial
          case behind =>
            intro vals wb hC hD hv
            have v7_39 : vals 39 = _ := hv _ (.head _)
            have v7_40 := hv _ (.tail _ (.head _))
            have v7_41 : vals 41 = _ := hv _ (.tail _ (.tail _ (.head _)))
            have v7_42 : vals 42 = _ := hv _ (.tail _ (.tail _ (.tail _ (.head _))))
            have v7_43 : vals 43 = _ := hv _ (.tail _ (.tail _ (.tail _ (.tail _ (.head _)))))
            have v7_44 : vals 44 = _ := hv _ (.tail _ (.tail _ (.tail _ (.tail _ (.tail _ (.head _))))))
            have v7_45 : vals 45 = _ := hv _ (.tail _ (.tail _ (.tail _ (.tail _ (.tail _ (.tail _ (.head _)))))))
            have v7_46 := hv _ (.tail _ (.tail _ (.tail _ (.tail _ (.tail _ (.tail _ (.tail _ (.head _))))))))
            obtain ⟨g, hg, le, RB⟩ := v7_46
            obtain ⟨h0, hh0, _, _⟩ := v7_40
            simp only [Ssa.putAll, List.map_cons, List.map_nil, List.foldl_cons, List.foldl_nil, List.setIfInBounds_toArray, List.set_cons_succ, List.set_cons_zero, v7_39, v7_41, v7_42, v7_43, v7_44, v7_45, hg, hh0, List.drop_succ_cons, List.drop_zero]
            have BN := hide hC
            have HB := hide (And.intro le RB)
            clear hC hD hv hg hh0 le RB v7_39 v7_41 v7_42 v7_43 v7_44 v7_45 B6x
            clear vals
            unfold sv
            go_wp2_with (refine wp_store_whole rfl 29 _ _ rfl (w.heap.size + 1 + 1) rfl (sval.cells (some ⟨g, 0, none⟩) k k) rfl (BN.out.row 2 rfl) infoSt rfl (sv_one _ _ _ _) ?_; rintro w9 h9
                         have E9 := hide (BN.out.store 2 rfl _ h9)
                         have R9 : Row w9 g 3 (ints bins) := by
                           subst h9
                           exact HB.out.2.grown (grown_setRow _ _ _) HB.out.1.2
                         clear h9)
            exact bodyPost_ret (v := .agg (sval.cells (some ⟨g, 0, none⟩) k k).toArray) (results_whole rfl rfl (E9.out.row 2 rfl) Try.underlying29 rfl infoSt) rfl ⟨g, HB.out.1.1, rfl, R9, E9.out.old⟩
end Go.Proofs.Ythaaajepolahfaa
