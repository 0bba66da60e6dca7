/-
  Layer 13 as it landed: what stats' Decode, Of and Same answer.
-/
import Derived.Test.YthaaajepolahfaaStF
import Derived.Test.YthaaajepolahfaaLayD
import Derived.Test.YthaaajepolahfaaBinF
namespace Go.Proofs.Ythaaajepolahfaa
open Go.RowKit Pn Wd
set_option linter.unusedVariables false

theorem stats_any {b off n bb c0 c1 c2 : Nat} {vs : List Nat} (lo : Int) (h1 : -1099511627776 ≤ lo) (h2 : lo ≤ 1099511627776) (w : World) (V : Vp w b off n bb vs) :
    Calls Try.prog 35 #[.agg (prv b off n bb (cnV n vs) c0 c1 c2).toArray, wz lo] w fun e w' => ∃ g, w.heap.size ≤ g ∧ e = .returned (sv (SV.of (cnV n vs : Nat) (dsum lo n bb vs) (zN (dsq lo n bb vs))) (some ⟨g, 0, none⟩) (n + 1) (n + 1)) ∧ Row w' g 3 (ints (binsV n vs)) ∧ Old w w' := by
  have cl := V.vc.lt (n + 1)
  rw [show vs.getD (n + 1) 0 = cnV n vs from rfl] at cl
  have DB := dsum_bound (lo := lo) (n := n) (b := bb) (vs := vs) h1 h2 V.b40 V.vc.each cl
  have eW : ((sqV n bb vs : Nat) : Int) + (lo * 2 ^ 1 * (plV n bb vs : Nat) + (cnV n vs : Nat) * (lo * lo)) = dsq lo n bb vs := by
    unfold dsq
    rw [show lo * 2 ^ 1 = lo + lo by omega, Int.add_assoc]
  refine stats_core (k := n + 1) (c := cnV n vs) lo (plV n bb vs : Nat) (dsum lo n bb vs) (lo * 2 ^ 1 * (plV n bb vs : Nat)) ((cnV n vs : Nat) * (lo * lo)) (dsq lo n bb vs) (wz ((cnV n vs : Nat) * lo)) (wz (lo * 2 ^ 1)) (wz (lo * lo)) (wz (sqV n bb vs : Nat)) (wz (lo * 2 ^ 1 * (plV n bb vs : Nat) + (cnV n vs : Nat) * (lo * lo))) (binsV n vs) _ w rfl cl ⟨_, _, _, rfl⟩ ⟨_, _, _, rfl⟩ ⟨_, _, _, rfl⟩ ?_ ?_ ?_ ?_ ?_ ?_ ?_ ?_ ?_ ?_ ?_ ?_
  · exact fun wr o => worth_any c1 wr (V.mono o).places (by have := V.b40; omega)
  · exact fun wr => by rw [wz_one _ (by omega)]; exact product_any _ _ wr
  · exact fun wr => addZ _ _ wr
  · exact fun wr => shiftZ lo 1 (by omega) wr
  · exact fun wr => product_any _ _ wr
  · exact fun wr => product_any _ _ wr
  · exact fun wr => by rw [wz_one _ (by omega)]; exact product_any _ _ wr
  · exact fun wr o => worth_any c2 wr (V.mono o).squares (by have := V.b40; omega)
  · exact fun wr => addZ _ _ wr
  · exact fun wr => by rw [← eW]; exact addZ _ _ wr
  · exact fun wr o => counts_any wr (V.mono o).bins V.n64
  · exact fun g wr => told_any (some ⟨g, 0, none⟩) (n + 1) (n + 1) (cnV n vs : Nat) _ _ DB.1 DB.2 wr

theorem pz_one : ∀ v ∈ pz, v.oneCell' = true := by
  intro v hv
  simp [pz] at hv
  rcases hv with rfl | rfl | rfl <;> rfl
section
variable {w : World} {lo hi mo : Int} {a : Option Addr} {n : Nat} {es : List Int}
theorem fit_bits (F : Fit w lo hi mo a n es) (hs : soundZ lo hi mo es = 0) : n ≤ 64 ∧ bP lo hi ≤ 40 ∧ 1 ≤ bP lo hi ∧ -1099511627776 ≤ lo ∧ lo ≤ 1099511627776 := by
  obtain ⟨h1, _, h3⟩ := sound_of hs
  unfold bad1 at h1
  unfold bad3 at h3
  have h4 := bits_40 (d := (hi - lo).toNat) (by omega)
  have := F.len
  unfold bP
  refine ⟨by omega, h4.2, h4.1, by omega, by omega⟩
end

set_option maxHeartbeats 2000000 in
theorem partsOf_no {lo hi mo : Int} {a : Option Addr} {n : Nat} {es : List Int} (cap : Nat) (b : Option Addr) (m cm : Nat) (w : World) (F : Fit w lo hi mo a n es) (hs : soundZ lo hi mo es ≠ 0) :
    Calls Try.prog 33 #[pv lo hi mo a n cap, .slice b m cm] w fun e w' => e = .returned (.tuple #[.agg pz.toArray, .int .i64 (soundZ lo hi mo es)]) ∧ Old w w' := by
  have C1 := hide (fun (wr : World) (o : Old w wr) => len12 lo hi mo a n cap es wr (F.mono o))
  have B0 : Hid (Bxs w [(w.heap.size, 24, [.int .i64 lo, .int .i64 hi, .int .i64 mo, .slice a n cap]), (w.heap.size + 1, 61, pz)] ((w.alloc (.cells #[.int .i64 lo, .int .i64 hi, .int .i64 mo, .slice a n cap] 24)).alloc (.cells pz.toArray 61))) :=
    ((Bxs.nil w).alloc 24 [.int .i64 lo, .int .i64 hi, .int .i64 mo, .slice a n cap] rfl).alloc 61 pz (by rw [World.size_alloc])
  unfold pv at *
  clear F
  revert C1
  generalize soundZ lo hi mo es = s at *
  generalize lenS s lo hi es = L
  intro C1
  have t : (s != 0) = true := by simpa using hs
  go_enter Try.func33, Try.ntmps33
  go_wp2_with fail
  refine (C1.out _ B0.out.old).mono ?_
  rintro e w1 ⟨rfl, o1⟩
  have B1 := hide (B0.out.mono o1)
  clear B0 o1 C1 hs
  go_wp2_with (refine wp_store_whole rfl 61 _ _ rfl (w.heap.size + 1) rfl pz rfl (B1.out.row 1 rfl) infoPr rfl pz_one ?_; rintro w9 h9
               have E9 := B1.out.store 1 rfl _ h9
               clear h9)
  exact bodyPost_ret (v := .tuple #[.agg pz.toArray, .int .i64 s]) (results_cell_tmp rfl rfl rfl (E9.row 1 rfl) Try.underlying61 rfl infoPr) rfl ⟨rfl, E9.old⟩

set_option maxHeartbeats 2000000 in
theorem partsOf_len {lo hi mo : Int} {a : Option Addr} {n : Nat} {es : List Int} (cap : Nat) (b : Option Addr) (m cm : Nat) (w : World) (F : Fit w lo hi mo a n es) (hs : soundZ lo hi mo es = 0) (hm : m ≠ lenN es (bP lo hi)) :
    Calls Try.prog 33 #[pv lo hi mo a n cap, .slice b m cm] w fun e w' => e = .returned (.tuple #[.agg pz.toArray, .int .i64 1]) ∧ Old w w' := by
  have C1 := hide (fun (wr : World) (o : Old w wr) => len12 lo hi mo a n cap es wr (F.mono o))
  have C2 := hide (fun (wr : World) (o : Old w wr) => bits10 lo hi mo a n cap es wr (F.mono o))
  rw [hs] at C1 C2
  rw [show lenS 0 lo hi es = ((lenN es (bP lo hi) : Nat) : Int) from rfl] at C1
  have B0 : Hid (Bxs w [(w.heap.size, 24, [.int .i64 lo, .int .i64 hi, .int .i64 mo, .slice a n cap]), (w.heap.size + 1, 61, pz)] ((w.alloc (.cells #[.int .i64 lo, .int .i64 hi, .int .i64 mo, .slice a n cap] 24)).alloc (.cells pz.toArray 61))) :=
    ((Bxs.nil w).alloc 24 [.int .i64 lo, .int .i64 hi, .int .i64 mo, .slice a n cap] rfl).alloc 61 pz (by rw [World.size_alloc])
  unfold pv at *
  clear F hs
  revert C1 C2
  generalize lenN es (bP lo hi) = L at *
  generalize bitsS 0 lo hi = bz
  intro C1 C2
  have t : ((m : Int) != (L : Int)) = true := by simp; omega
  have t' : (m != L) = true := by simpa using hm
  go_enter Try.func33, Try.ntmps33
  go_wp2_with fail
  refine (C1.out _ B0.out.old).mono ?_
  rintro e w1 ⟨rfl, o1⟩
  have B1 := hide (B0.out.mono o1)
  clear B0 o1 C1 hm
  have c0 := (B1.out.row 0 rfl).cell (i := 0) rfl
  have c1 := (B1.out.row 0 rfl).cell (i := 1) rfl
  have c2 := (B1.out.row 0 rfl).cell (i := 2) rfl
  have c3 := (B1.out.row 0 rfl).cell (i := 3) rfl
  go_wp2_with fail
  refine (C2.out _ B1.out.old).mono ?_
  rintro e w2 ⟨rfl, o2⟩
  have B2 := hide (B1.out.mono o2)
  clear B1 o2 C2 c0 c1 c2 c3
  go_wp2_with (refine wp_store_whole rfl 61 _ _ rfl (w.heap.size + 1) rfl pz rfl (B2.out.row 1 rfl) infoPr rfl pz_one ?_; rintro w9 h9
               have E9 := B2.out.store 1 rfl _ h9
               clear h9)
  exact bodyPost_ret (v := .tuple #[.agg pz.toArray, .int .i64 1]) (results_cell_tmp rfl rfl rfl (E9.row 1 rfl) Try.underlying61 rfl infoPr) rfl ⟨rfl, E9.old⟩

set_option maxHeartbeats 2000000 in
theorem partsOf_ok {lo hi mo : Int} {a : Option Addr} {n : Nat} {es : List Int} (cap : Nat) (b off m cm : Nat) {vs : List Nat} (w : World) (F : Fit w lo hi mo a n es) (hs : soundZ lo hi mo es = 0) (V : Vp w b off n (bP lo hi) vs) (hm : m = n + 2 + 3 * bP lo hi) (hc : m ≤ cm) :
    Calls Try.prog 33 #[pv lo hi mo a n cap, .slice (some ⟨b, off, none⟩) m cm] w fun e w' => ∃ c0 c1 c2, e = .returned (.tuple #[.agg (prv b off n (bP lo hi) (cnV n vs) c0 c1 c2).toArray, .int .i64 0]) ∧ Old w w' := by
  have C1 := hide (fun (wr : World) (o : Old w wr) => len12 lo hi mo a n cap es wr (F.mono o))
  have C2 := hide (fun (wr : World) (o : Old w wr) => bits10 lo hi mo a n cap es wr (F.mono o))
  rw [hs] at C1 C2
  rw [show lenS 0 lo hi es = ((lenN es (bP lo hi) : Nat) : Int) from rfl, show lenN es (bP lo hi) = m by unfold lenN; rw [F.len, hm]] at C1
  rw [show bitsS 0 lo hi = ((bP lo hi : Nat) : Int) from rfl] at C2
  have HB := fit_bits F hs
  have n64 : (n : Int) ≤ 64 := by omega
  have en : wrap64 ((n : Int) + 1) = ((n + 1 : Nat) : Int) := by unfold wrap64; omega
  have en' : IntKind.i64.wrap ((n : Int) + 1) = ((n + 1 : Nat) : Int) := by rw [IntKind.wrap_i64]; omega
  have C3 := hide (fun (gp gq gr : Nat) (wr : World) B => readParts_any (w0 := w) (pl := [.int .i64 lo, .int .i64 hi, .int .i64 mo, .slice a n cap]) (gp := gp) (gq := gq) (gr := gr) (cm := cm) V HB.2.2.1 (by omega) wr B)
  rw [← hm] at C3
  have t : ((m : Int) != (m : Int)) = false := by simp
  have t' : (m != m) = false := by simp
  have B0 : Hid (Bxs w [(w.heap.size, 24, [.int .i64 lo, .int .i64 hi, .int .i64 mo, .slice a n cap]), (w.heap.size + 1, 61, pz)] ((w.alloc (.cells #[.int .i64 lo, .int .i64 hi, .int .i64 mo, .slice a n cap] 24)).alloc (.cells pz.toArray 61))) :=
    ((Bxs.nil w).alloc 24 [.int .i64 lo, .int .i64 hi, .int .i64 mo, .slice a n cap] rfl).alloc 61 pz (by rw [World.size_alloc])
  unfold pv at *
  clear F hs HB hm hc V
  revert C1 C2 C3
  generalize cnV n vs = c
  generalize bP lo hi = bb
  intro C1 C2 C3
  have hmf : ∀ (fn : Fn) (first cap : Array Value) (w : World), (Instr.makeFunc fn first cap).run Try.prog w = .ok (.func fn first cap) w := fun _ _ _ _ => rfl
  go_enter Try.func33, Try.ntmps33
  go_wp2_with fail
  refine (C1.out _ B0.out.old).mono ?_
  rintro e w1 ⟨rfl, o1⟩
  have B1 := hide (B0.out.mono o1)
  clear B0 o1 C1
  have c0 := (B1.out.row 0 rfl).cell (i := 0) rfl
  have c1 := (B1.out.row 0 rfl).cell (i := 1) rfl
  have c2 := (B1.out.row 0 rfl).cell (i := 2) rfl
  have c3 := (B1.out.row 0 rfl).cell (i := 3) rfl
  go_wp2_with fail
  refine (C2.out _ B1.out.old).mono ?_
  rintro e w2 ⟨rfl, o2⟩
  have B2 := hide (B1.out.mono o2)
  clear B1 o2 C2 c0 c1 c2 c3
  have B3 := hide (B2.out.alloc 80 [.slice (some ⟨b, off, none⟩) m cm] rfl)
  have c3 := (B3.out.row 0 rfl).cell (i := 3) rfl
  go_wp2_with fail
  refine (C3.out _ _ _ _ B3.out).mono ?_
  rintro e w3 ⟨k0, k1, k2, v, rfl, B4⟩
  have B5 := hide B4
  clear B3 B2 C3 c3 B4 hmf
  go_wp2_with (refine wp_store_whole rfl 61 _ _ rfl (w.heap.size + 1) rfl (prv b off n bb c k0 k1 k2) rfl (B5.out.row 1 rfl) infoPr rfl (prv_one _ _ _ _ _ _ _ _) ?_; rintro w9 h9
               have E9 := B5.out.store 1 rfl _ h9
               clear h9)
  exact bodyPost_ret (v := .tuple #[.agg (prv b off n bb c k0 k1 k2).toArray, .int .i64 0]) (results_cell_tmp rfl rfl rfl (E9.row 1 rfl) Try.underlying61 rfl infoPr) rfl ⟨k0, k1, k2, rfl, E9.old⟩

set_option maxHeartbeats 2000000 in
theorem decode_bad {lo hi mo : Int} {a : Option Addr} {n cap : Nat} {b : Option Addr} {m cm : Nat} (s : Int) (hs : s ≠ 0) (w : World)
    (C1 : Hid (∀ wr : World, Old w wr → Calls Try.prog 33 #[pv lo hi mo a n cap, .slice b m cm] wr fun e w' => e = .returned (.tuple #[.agg pz.toArray, .int .i64 s]) ∧ Old wr w')) :
    Calls Try.prog 13 #[pv lo hi mo a n cap, .slice b m cm] w fun e w' => e = .returned (.tuple #[.agg stz.toArray, .int .i64 s]) ∧ Old w w' := by
  have B0 : Hid (Bxs w [(w.heap.size, 24, [.int .i64 lo, .int .i64 hi, .int .i64 mo, .slice a n cap]), (w.heap.size + 1, 29, stz)] ((w.alloc (.cells #[.int .i64 lo, .int .i64 hi, .int .i64 mo, .slice a n cap] 24)).alloc (.cells stz.toArray 29))) :=
    ((Bxs.nil w).alloc 24 [.int .i64 lo, .int .i64 hi, .int .i64 mo, .slice a n cap] rfl).alloc 29 stz (by rw [World.size_alloc])
  unfold pv at *
  have t : (s != 0) = true := by simpa using hs
  clear hs
  go_enter Try.func13, Try.ntmps13
  go_wp2_with fail
  refine (C1.out _ B0.out.old).mono ?_
  rintro e w1 ⟨rfl, o1⟩
  have B1 := hide (B0.out.mono o1)
  have B2 := hide (B1.out.alloc 61 pz rfl)
  clear B0 o1 C1
  go_wp2_with (first
    | (refine wp_store_whole rfl 61 _ _ rfl w1.heap.size rfl pz rfl (B2.out.row 2 rfl) infoPr rfl pz_one ?_; rintro w8 h8
       have B3 := hide (B2.out.store 2 rfl _ h8)
       clear h8)
    | (refine wp_store_whole rfl 29 _ _ rfl (w.heap.size + 1) rfl stz rfl (B3.out.row 1 rfl) infoSt rfl stz_one ?_; rintro w9 h9
       have E9 := B3.out.store 1 rfl _ h9
       clear h9))
  exact bodyPost_ret (v := .tuple #[.agg stz.toArray, .int .i64 s]) (results_cell_tmp rfl rfl rfl (E9.row 1 rfl) Try.underlying29 rfl infoSt) rfl ⟨rfl, E9.old⟩

/-- What Decode hands back of a vector of the right length. -/
def DecR (w w' : World) (e : Ending) (hd : Bool) (sval : SV) (k : Nat) (bins : List Int) : Prop := ∃ v, e = .returned (.tuple #[v, .int .i64 (if hd then 11 else 0)]) ∧ Old w w' ∧ (hd = false → ∃ g, v = sv sval (some ⟨g, 0, none⟩) k k ∧ w.heap.size ≤ g ∧ Row w' g 3 (ints bins)) ∧ (hd = true → v = .agg stz.toArray)

set_option maxRecDepth 100000 in
set_option maxHeartbeats 4000000 in
theorem decode_ok {lo hi mo : Int} {a : Option Addr} {n cap k : Nat} {b : Option Addr} {m cm : Nat} (hd : Bool) (sval : SV) (bins : List Int) (w : World)
    (C1 : Hid (∀ wr : World, Old w wr → Calls Try.prog 33 #[pv lo hi mo a n cap, .slice b m cm] wr fun e w' => ∃ p0 p1 p2 p3 : Value, (e = .returned (.tuple #[.agg #[p0, p1, p2, p3], .int .i64 0]) ∧ Old wr w') ∧ (∀ v ∈ [p0, p1, p2, p3], v.oneCell' = true) ∧
      (∀ wr : World, Old w wr → Calls Try.prog 34 #[.agg #[p0, p1, p2, p3]] wr fun e w' => e = .returned (.bool (!hd)) ∧ Old wr w') ∧
      (∀ wr : World, Old w wr → Calls Try.prog 35 #[.agg #[p0, p1, p2, p3], wz lo] wr fun e w' => ∃ g, wr.heap.size ≤ g ∧ e = .returned (sv sval (some ⟨g, 0, none⟩) k k) ∧ Row w' g 3 (ints bins) ∧ Old wr w')))
    (C2 : Hid (∀ wr : World, Calls Try.prog 24 #[.int .i64 lo] wr fun e w' => e = .returned (wz lo) ∧ Old wr w')) :
    Calls Try.prog 13 #[pv lo hi mo a n cap, .slice b m cm] w fun e w' => DecR w w' e hd sval k bins := by
  have B0 : Hid (Bxs w [(w.heap.size, 24, [.int .i64 lo, .int .i64 hi, .int .i64 mo, .slice a n cap]), (w.heap.size + 1, 29, stz)] ((w.alloc (.cells #[.int .i64 lo, .int .i64 hi, .int .i64 mo, .slice a n cap] 24)).alloc (.cells stz.toArray 29))) :=
    ((Bxs.nil w).alloc 24 [.int .i64 lo, .int .i64 hi, .int .i64 mo, .slice a n cap] rfl).alloc 29 stz (by rw [World.size_alloc])
  unfold pv at *
  simp only [wz_arr] at C1 C2
  go_enter Try.func13, Try.ntmps13
  go_wp2_with fail
  refine (C1.out _ B0.out.old).mono ?_
  rintro e w1 ⟨p0, p1, p2, p3, ⟨rfl, o1⟩, hone, C3, C4⟩
  have B1 := hide (B0.out.mono o1)
  have H1 := hide hone
  have C3 := hide C3
  have C4 := hide C4
  clear B0 o1 C1 hone
  have B2 := hide (B1.out.alloc 61 pz rfl)
  go_wp2_with (first
    | (refine wp_store_whole rfl 61 _ _ rfl w1.heap.size rfl [p0, p1, p2, p3] rfl (B2.out.row 2 rfl) infoPr rfl H1.out ?_; rintro w8 h8
       have B3 := hide (B2.out.store 2 rfl _ h8)
       clear h8 B2 H1)
    | refine wp_load_whole rfl 61 _ rfl w1.heap.size rfl (B3.out.row 2 rfl) Try.underlying61 rfl infoPr ?_)
  refine (C3.out _ B3.out.old).mono ?_
  rintro e w2 ⟨rfl, o2⟩
  have B4 := hide (B3.out.mono o2)
  clear B1 B3 o2 C3
  revert B4
  generalize w1.heap.size = gs
  intro B4
  cases hd
  · go_wp2_with fail
    try simp only [Act.put]
    refine Ssz.region (Ext := Old) 5 (fun w' => Bxs w [(w.heap.size, 24, [.int .i64 lo, .int .i64 hi, .int .i64 mo, .slice a n cap]), (w.heap.size + 1, 29, stz), (gs, 61, [p0, p1, p2, p3])] w') (Ssz.Apart []) [22, 23, 24, 25, 26]
      [(22, Ssx.cst (.agg #[p0, p1, p2, p3])), (23, Ssx.cst (.pointer (some ⟨w.heap.size, 0, none⟩))), (24, Ssx.cst (.int .i64 lo)), (25, Ssx.cst (.agg (wc lo).toArray)), (26, (Sd w (w.heap.size + 1) sval k bins))]
      [] (by kernel_rfl) (by kernel_rfl) (by kernel_rfl) (by simp) (by kernel_rfl) (by intro p hp; cases hp) (by kernel_rfl) (by kernel_rfl) Old.refl (B4.out.mono (Old.of_drewN _ _)) ?apart ?good ?behind
    case apart => exact ⟨fun s hs => by simp at hs, fun s hs => by simp at hs⟩
    case good =>
      have hE : ∀ w w' : World, Old w w' → w.heap.size ≤ w'.heap.size := fun _ _ h => h.size
      refine And.intro (.inr ⟨by kernel_rfl, Ssz.keep (Ssx.whole Old.refl rfl rfl (gs) ([p0, p1, p2, p3]) (fun _ _ h => h) (fun _ h => (h.row 2 rfl).rngX) Try.underlying61 rfl infoPr (fun _ => rfl)) hE (by kernel_rfl)⟩) ?_
      refine And.intro (.inr ⟨by kernel_rfl, Ssz.keep (Ssx.val1 Old.refl (x := 2) (.pointer (some ⟨w.heap.size, 0, none⟩)) (by simp [Op.operands]) rfl (fun _ _ h => h) (fun ρ h1 hc w => by unfold execOp; simp [h1, go_sem]) (fun _ => rfl)) hE (by kernel_rfl)⟩) ?_
      refine And.intro (.inr ⟨by kernel_rfl, Ssz.keep (Ssy.cell Old.refl rfl rfl (⟨w.heap.size, 0, none⟩) (.int .i64 lo) (fun _ _ h => h) (fun _ h => (h.row 0 rfl).cell (i := 0) rfl) Try.underlying3 rfl (fun _ => rfl)) hE (by kernel_rfl)⟩) ?_
      refine And.intro (.inr ⟨by kernel_rfl, Ssz.keep (Ssx.call rfl fun a' w' hC hop => ⟨24, #[.int .i64 lo], ?_, (C2.out w').mono fun _ _ ⟨h1, h2⟩ => ⟨_, h1, hC.mono h2, h2, rfl⟩⟩) hE (by kernel_rfl)⟩) ?_
      · have h0 : a'.eval (.tmp 24) = .int .i64 lo := hop 24 (by simp [Op.operands, Call.operands])
        simp [Act.eval] at h0
        simp [h0, go_sem]
      refine And.intro (.inr ⟨by kernel_rfl, Ssz.keep (Ssx.call rfl fun a' w' hC hop => ⟨35, #[.agg #[p0, p1, p2, p3], .agg (wc lo).toArray], ?_, (C4.out w' hC.old).mono fun _ _ ⟨g, lg, h1, h2, h3⟩ => ⟨_, h1, hC.mono h3, h3, ⟨g, rfl, ⟨Nat.le_trans hC.old.size lg, by have := (hC.row 1 rfl).lt; omega⟩, h2⟩⟩⟩) hE (by kernel_rfl)⟩) ?_
      · have h0 : a'.eval (.tmp 22) = .agg #[p0, p1, p2, p3] := hop 22 (by simp [Op.operands, Call.operands])
        have h1 : a'.eval (.tmp 25) = .agg (wc lo).toArray := hop 25 (by simp [Op.operands, Call.operands])
        simp [Act.eval] at h0 h1
        simp [h0, h1, go_sem]
      exact trivial
    case behind =>
      intro vals wb hC hD hv
      have v22 : vals 22 = _ := hv _ (.head _)
      have v23 : vals 23 = _ := hv _ (.tail _ (.head _))
      have v24 : vals 24 = _ := hv _ (.tail _ (.tail _ (.head _)))
      have v25 : vals 25 = _ := hv _ (.tail _ (.tail _ (.tail _ (.head _))))
      have v26 := hv _ (.tail _ (.tail _ (.tail _ (.tail _ (.head _)))))
      obtain ⟨g, hg, le, RB⟩ := v26
      simp only [Ssa.putAll, List.map_cons, List.map_nil, List.foldl_cons, List.foldl_nil, List.setIfInBounds_toArray, List.set_cons_succ, List.set_cons_zero, v22, v23, v24, v25, hg, List.drop_succ_cons, List.drop_zero]
      have BN := hide hC
      have HB := hide (And.intro le RB)
      clear hC hD hv hg le RB v22 v23 v24 v25 B4
      clear vals
      go_wp2_with (refine wp_store_whole rfl 29 _ _ rfl (w.heap.size + 1) rfl (sval.cells (some ⟨g, 0, none⟩) k k) rfl (BN.out.row 1 rfl) infoSt rfl (sv_one _ _ _ _) ?_; rintro w9 h9
                   have E9 := hide (BN.out.store 1 rfl _ h9)
                   have R9 : Row w9 g 3 (ints bins) := by
                     subst h9
                     exact HB.out.2.grown (grown_setRow _ _ _) HB.out.1.2
                   clear h9)
      exact bodyPost_ret (v := .tuple #[.agg (sval.cells (some ⟨g, 0, none⟩) k k).toArray, .int .i64 0]) (results_cell_tmp rfl rfl rfl (E9.out.row 1 rfl) Try.underlying29 rfl infoSt) rfl ⟨_, rfl, E9.out.old, fun _ => ⟨g, rfl, HB.out.1.1, R9⟩, fun h => Bool.noConfusion h⟩
  · go_wp2_with (refine wp_store_whole rfl 29 _ _ rfl (w.heap.size + 1) rfl stz rfl (B4.out.row 1 rfl) infoSt rfl stz_one ?_; rintro w9 h9
                 have E9 := B4.out.store 1 rfl _ h9
                 clear h9)
    exact bodyPost_ret (v := .tuple #[.agg stz.toArray, .int .i64 11]) (results_cell_tmp rfl rfl rfl (E9.row 1 rfl) Try.underlying29 rfl infoSt) rfl ⟨_, rfl, E9.old, fun h => Bool.noConfusion h, fun _ => rfl⟩

theorem decode13 : DecodeC13 := by
  intro lo hi mo a n cap es b m cm vs w F V hmc
  by_cases hs : soundZ lo hi mo es = 0
  · by_cases hm : m = lenN es (bP lo hi)
    · obtain ⟨h1, h2, h3, h4, h5⟩ := fit_bits F hs
      have hm2 : m = n + 2 + 3 * bP lo hi := by rw [hm]; unfold lenN; rw [F.len]
      obtain ⟨b', off, rfl⟩ := V.some_ (i := 0) (by omega)
      have W : ∀ wr, Old w wr → Vp wr b' off n (bP lo hi) vs := fun wr o => ⟨by rw [← hm2]; exact V.mono o, h1, h2⟩
      have DE : decE (soundZ lo hi mo es) es (bP lo hi) m vs = if headV n vs then 11 else 0 := by
        unfold decE
        rw [if_neg (by simpa using hs), if_neg (by simpa using hm), F.len]
      rw [DE]
      refine (decode_ok (headV n vs) (SV.of (cnV n vs) (dsum lo n (bP lo hi) vs) (zN (dsq lo n (bP lo hi) vs))) (binsV n vs) w (k := n + 1) ?_ ?_).mono ?_
      · intro wr o
        refine (partsOf_ok cap b' off m cm wr (F.mono o) hs (W wr o) hm2 hmc).mono ?_
        rintro e w' ⟨k0, k1, k2, rfl, o'⟩
        exact ⟨_, _, _, _, ⟨rfl, o'⟩, prv_one _ _ _ _ _ _ _ _, fun wr o => fit_any wr (W wr o), fun wr o => stats_any lo h4 h5 wr (W wr o)⟩
      · exact fun wr => signed_any lo (by unfold B64; omega) wr
      · rintro e w' ⟨v, rfl, o, ok, bad⟩
        refine ⟨v, rfl, o, fun h => ?_, fun h => ?_⟩
        · have hf : headV n vs = false := by
            cases hh : headV n vs
            · rfl
            · rw [hh] at h; simp at h
          obtain ⟨g, rfl, lg, R⟩ := ok hf
          have bl : (binsV n vs).length = n + 1 := by
            unfold binsV
            rw [List.length_map, List.length_take, V.len]
            omega
          exact ⟨g, n + 1, [], by rw [bl], lg, by rw [List.append_nil]; exact R⟩
        · have hf : headV n vs = true := by
            cases hh : headV n vs
            · rw [hh] at h; simp at h
            · rfl
          exact ⟨none, 0, bad hf⟩
    · have DE : decE (soundZ lo hi mo es) es (bP lo hi) m vs = 1 := by
        unfold decE
        rw [if_neg (by simpa using hs), if_pos hm]
      rw [DE]
      refine (decode_bad 1 (by omega) w (fun wr o => partsOf_len cap b m cm wr (F.mono o) hs hm)).mono ?_
      rintro e w' ⟨rfl, o⟩
      exact ⟨_, rfl, o, fun h => (by simp at h), fun _ => ⟨none, 0, rfl⟩⟩
  · have DE : decE (soundZ lo hi mo es) es (bP lo hi) m vs = soundZ lo hi mo es := by
      unfold decE
      rw [if_pos hs]
    rw [DE]
    refine (decode_bad _ hs w (fun wr o => partsOf_no cap b m cm wr (F.mono o) hs)).mono ?_
    rintro e w' ⟨rfl, o⟩
    exact ⟨_, rfl, o, fun h => absurd h hs, fun _ => ⟨none, 0, rfl⟩⟩

theorem clamp_in {lo hi c : Int} (h1 : lo ≤ c) (h2 : c ≤ hi) : clampZ lo hi c = c := by
  unfold clampZ
  rw [if_neg (by omega), if_neg (by omega)]
theorem Bxs.take {w wr : World} {bs : List (Nat × TypeId × List Value)} (h : Bxs w bs wr) (n : Nat) : Bxs w (bs.take n) wr := by
  have one : ∀ (i : Nat) (p : Nat × TypeId × List Value), (bs.take n)[i]? = some p → bs[i]? = some p := by
    intro i p hp
    rw [List.getElem?_take] at hp
    split at hp
    · exact hp
    · cases hp
  exact ⟨fun i p hp => h.rows i p (one i p hp), fun i j p q hp hq hn => h.nd i j p q (one i p hp) (one j q hq) hn, h.old⟩
theorem wc_nil : wc 0 = [.int .u64 0, .int .u64 0] := wc_zero

set_option maxHeartbeats 2000000 in
theorem of_bad {lo hi mo : Int} {a : Option Addr} {n : Nat} {es : List Int} (cap : Nat) (b : Option Addr) (k ck : Nat) (w : World) (F : Fit w lo hi mo a n es) (hs : soundZ lo hi mo es ≠ 0) :
    Calls Try.prog 8 #[pv lo hi mo a n cap, .slice b k ck] w fun e w' => e = .returned (.tuple #[.agg stz.toArray, .int .i64 (soundZ lo hi mo es)]) ∧ Old w w' := by
  have C1 := hide (fun (wr : World) (o : Old w wr) => sound10 lo hi mo a n cap es wr (F.mono o))
  have B0 : Hid (Bxs w [(w.heap.size, 24, [.int .i64 lo, .int .i64 hi, .int .i64 mo, .slice a n cap]), (w.heap.size + 1, 29, stz)] ((w.alloc (.cells #[.int .i64 lo, .int .i64 hi, .int .i64 mo, .slice a n cap] 24)).alloc (.cells stz.toArray 29))) :=
    ((Bxs.nil w).alloc 24 [.int .i64 lo, .int .i64 hi, .int .i64 mo, .slice a n cap] rfl).alloc 29 stz (by rw [World.size_alloc])
  unfold pv at *
  clear F
  revert C1
  generalize soundZ lo hi mo es = s at *
  intro C1
  have t : (s != 0) = true := by simpa using hs
  go_enter Try.func8, Try.ntmps8
  go_wp2_with fail
  refine (C1.out _ B0.out.old).mono ?_
  rintro e w1 ⟨rfl, o1⟩
  have B1 := hide (B0.out.mono o1)
  clear B0 o1 C1 hs
  go_wp2_with (refine wp_store_whole rfl 29 _ _ rfl (w.heap.size + 1) rfl stz rfl (B1.out.row 1 rfl) infoSt rfl stz_one ?_; rintro w9 h9
               have E9 := B1.out.store 1 rfl _ h9
               clear h9)
  exact bodyPost_ret (v := .tuple #[.agg stz.toArray, .int .i64 s]) (results_cell_tmp rfl rfl rfl (E9.row 1 rfl) Try.underlying29 rfl infoSt) rfl ⟨rfl, E9.old⟩

set_option maxRecDepth 100000 in
set_option maxHeartbeats 8000000 in
theorem of_ok {lo hi mo : Int} {a : Option Addr} {n : Nat} {es : List Int} (cap : Nat) (b : Option Addr) (k ck : Nat) (xs : List Int) (w : World) (F : Fit w lo hi mo a n es) (hs : soundZ lo hi mo es = 0) (S : Sam w b k xs) (hk : k ≤ 2147483647) :
    Calls Try.prog 8 #[pv lo hi mo a n cap, .slice b k ck] w fun e w' => ∃ g, w.heap.size ≤ g ∧ e = .returned (.tuple #[sv (SV.of k (sumZ lo hi xs) (zN (sqZ lo hi xs))) (some ⟨g, 0, none⟩) (n + 1) (n + 1), .int .i64 0]) ∧ Row w' g 3 (ints (cntL lo hi es xs)) ∧ Old w w' := by
  obtain ⟨h1, _, h3⟩ := sound_of hs
  unfold bad1 at h1
  have h4 := F.len
  have n64 : n ≤ 64 := by unfold bad3 at h3; omega
  have C1 := hide (fun (wr : World) (o : Old w wr) => sound10 lo hi mo a n cap es wr (F.mono o))
  have C4 : Hid (∀ (x : Int), B64 x → ∀ (wr : World), Old w wr → Calls Try.prog 22 #[pv lo hi mo a n cap, .int .i64 x] wr fun e w' => e = .returned (.tuple #[.int .i64 (clampZ lo hi x), .int .i64 0]) ∧ Old wr w') := fun x hx wr o => by
    have := clamp10 lo hi mo x a n cap es wr hx (F.mono o)
    rw [hs] at this
    exact this
  have HC : Hid (∀ x : Int, -1099511627776 ≤ clampZ lo hi x ∧ clampZ lo hi x ≤ 1099511627776) := fun x => by
    have := clampZ_in (lo := lo) (hi := hi) (x := x) (by omega)
    omega
  have C3 : Hid (∀ (x : Int) (wr : World), Old w wr → Calls Try.prog 23 #[pv lo hi mo a n cap, .int .i64 (clampZ lo hi x)] wr fun e w' => e = .returned (.tuple #[.int .i64 ((binX lo hi es x : Nat) : Int), .int .i64 0]) ∧ Old wr w') := fun x wr o => by
    have h5 := HC.out x
    have := find11 lo hi mo (clampZ lo hi x) a n cap es wr (by unfold B64; omega) (F.mono o)
    rw [hs] at this
    have e : binS 0 lo hi es (clampZ lo hi x) = ((binX lo hi es x : Nat) : Int) := by
      have h6 := clampZ_in (lo := lo) (hi := hi) (x := x) (by omega)
      unfold binS binX
      rw [if_pos rfl, clamp_in h6.1 h6.2]
    rw [e] at this
    exact this
  have HB := hide (sumZ_bound (lo := lo) (hi := hi) (by omega) (by omega) (by omega) xs)
  rw [hs] at C1
  have HS := hide S
  have HE := hide h4
  have HK := hide (And.intro S.len hk)
  have MK : ∀ w : World, (Instr.makeSlice 22 (.int .i64 ((n : Int) + 1)) (.int .i64 ((n : Int) + 1))).run Try.prog w = .ok (.slice (some ⟨w.heap.size, 0, none⟩) (n + 1) (n + 1)) (w.alloc (.cells (ints (List.replicate (n + 1) 0)).toArray 3)) := make_ints (n + 1) (by omega)
  have b3 : (n : Int) ≤ 64 := by omega
  have B0 : Hid (Bxs w [(w.heap.size, 24, [.int .i64 lo, .int .i64 hi, .int .i64 mo, .slice a n cap]), (w.heap.size + 1, 29, stz)] ((w.alloc (.cells #[.int .i64 lo, .int .i64 hi, .int .i64 mo, .slice a n cap] 24)).alloc (.cells stz.toArray 29))) :=
    ((Bxs.nil w).alloc 24 [.int .i64 lo, .int .i64 hi, .int .i64 mo, .slice a n cap] rfl).alloc 29 stz (by rw [World.size_alloc])
  unfold pv at C1 C3 C4 ⊢
  clear h1 h3 h4 hs F S n64 hk
  go_enter Try.func8, Try.ntmps8
  go_wp2_with fail
  refine (C1.out _ B0.out.old).mono ?_
  rintro e w1 ⟨rfl, o1⟩
  have BA := hide ((((B0.out.mono o1).alloc 3 (ints (List.replicate (n + 1) 0)) rfl).alloc 27 [.int .u64 0, .int .u64 0] (g := w1.heap.size + 1) (by rw [World.size_alloc])).alloc 27 [.int .u64 0, .int .u64 0] (g := w1.heap.size + 1 + 1) (by simp only [World.size_alloc]))
  have c3 := ((B0.out.mono o1).row 0 rfl).cell (i := 3) rfl
  clear B0 o1 C1
  go_wp2_with fail
  clear MK c3
  go_loopw [31] (fun vi wr => ∃ i : Nat, i ≤ k ∧ vi = .int .i64 (i : Int) ∧ Hid (Bxs w [(w.heap.size, 24, [.int .i64 lo, .int .i64 hi, .int .i64 mo, .slice a n cap]), (w.heap.size + 1, 29, stz), (w1.heap.size, 3, ints (cntL lo hi es (xs.take i))), (w1.heap.size + 1, 27, wc (sumZ lo hi (xs.take i))), (w1.heap.size + 1 + 1, 27, wc (sqZ lo hi (xs.take i)))] wr)) (fun vi _ => k - (intOf vi).toNat)
  case atStart =>
    refine ⟨0, Nat.zero_le _, rfl, ?_⟩
    rw [Hid, List.take_zero, cntL_nil, HE.out, show sumZ lo hi [] = 0 from rfl, show sqZ lo hi [] = 0 from rfl, wc_nil]
    exact BA.out
  case round =>
    clear BA
    obtain ⟨i, hi', rfl, R⟩ := hrel
    by_cases hl : i < k
    · have t3 : decide (i < k) = true := by simpa using hl
      have t3' : decide ((i : Int) < (k : Int)) = true := by simp; omega
      obtain ⟨b', off, rfl, _⟩ := rd_int HS.out.rd (i := i) (by rw [HK.out.1]; exact hl)
      obtain ⟨x, hx⟩ : ∃ x, x = xs.getD i 0 := ⟨_, rfl⟩
      obtain ⟨p, hp⟩ : ∃ p, p = binX lo hi es x := ⟨_, rfl⟩
      have pl : p ≤ n := by rw [hp, ← HE.out]; exact binX_le _ _ _ _
      have NT : Hid (xs.take (i + 1) = xs.take i ++ [x]) := by
        have hil : i < xs.length := by rw [HK.out.1]; exact hl
        show xs.take (i + 1) = _
        rw [List.take_add_one, List.getElem?_eq_getElem hil, Option.toList_some, hx]
        simp [List.getD, hil]
      have NB := hide (cntL_add lo hi es (xs.take i) x)
      have CL := hide (cntL_length lo hi es (xs.take i))
      have CB := hide (cntL_bound lo hi es (xs.take i) p)
      have TL : Hid ((xs.take i).length ≤ i) := by rw [Hid, List.length_take]; omega
      have N1 := hide (sumZ_snoc lo hi (xs.take i) x)
      have N2 := hide (sqZ_snoc lo hi (xs.take i) x)
      rw [← NT.out] at NB N1 N2
      rw [← hp] at NB
      rw [HE.out] at CL
      have C5 := hide (C3.out x)
      rw [← hp] at C5
      have XB : B64 x := by
        have hil : i < xs.length := by rw [HK.out.1]; exact hl
        rw [hx]
        exact HS.out.each _ (by simp [List.getD, hil])
      have C6 := hide (C4.out x XB)
      have HXC := HC.out x
      obtain ⟨c, hc⟩ : ∃ c, c = clampZ lo hi x := ⟨_, rfl⟩
      rw [← hc] at N1 N2 C5 C6 HXC
      have CI := hide (fun wr : World => signed_any c (by unfold B64; omega) wr)
      have cx := rd_at (HS.out.mono R.out.old).rd (i := i) (by rw [HK.out.1]; exact hl)
      rw [← hx] at cx
      generalize cntL lo hi es (xs.take i) = cs at R NB CL CB
      generalize sumZ lo hi (xs.take i) = s at R N1
      generalize sqZ lo hi (xs.take i) = q at R N2
      obtain ⟨z, hz⟩ : ∃ z, z = cs.getD p 0 := ⟨_, rfl⟩
      rw [← hz] at NB CB
      have HZ := hide hz
      have ei : wrap64 (z + 1) = z + 1 := by have := CB.out; have := TL.out; have := HK.out.2; unfold wrap64; omega
      have ei' : IntKind.i64.wrap (z + 1) = z + 1 := by have := CB.out; have := TL.out; have := HK.out.2; rw [IntKind.wrap_i64]; omega
      have CA := hide (fun wr : World => addZ s c wr)
      have CM := hide (fun wr : World => product_any c c wr)
      have CD := hide (fun wr : World => addZ q (c * c) wr)
      rw [← N1.out] at CA
      rw [← N2.out] at CD
      clear hx hp hz hc HXC XB CB
      obtain ⟨m0, hm0⟩ : ∃ m0, m0 = wz (c * c) := ⟨_, rfl⟩
      rw [← hm0] at CM CD
      simp only [wz_arr] at CA CM CD CI
      obtain ⟨s', hs'⟩ : ∃ s', s' = sumZ lo hi (xs.take (i + 1)) := ⟨_, rfl⟩
      obtain ⟨q', hq'⟩ : ∃ q', q' = sqZ lo hi (xs.take (i + 1)) := ⟨_, rfl⟩
      rw [← hs'] at CA
      rw [← hq'] at CD
      have HS' := hide (And.intro hs' hq')
      clear hs' hq'
      clear hm0 N1 N2
      have iw : wrap64 ((i : Int) + 1) = ((i + 1 : Nat) : Int) := by have := HK.out.2; unfold wrap64; omega
      have q0 : (0 : Int) ≤ i := by omega
      have q1 : (i : Int) < k := by omega
      have d0 := (R.out.row 0 rfl).cell (i := 0) rfl
      have d1 := (R.out.row 0 rfl).cell (i := 1) rfl
      have d2 := (R.out.row 0 rfl).cell (i := 2) rfl
      have d3 := (R.out.row 0 rfl).cell (i := 3) rfl
      go_wp2_with fail
      refine (C6.out _ R.out.old).mono ?_
      rintro e w2 ⟨rfl, o2⟩
      have R2 := hide (R.out.mono o2)
      clear R o2 C6 d0 d1 d2 d3 cx
      have d0 := (R2.out.row 0 rfl).cell (i := 0) rfl
      have d1 := (R2.out.row 0 rfl).cell (i := 1) rfl
      have d2 := (R2.out.row 0 rfl).cell (i := 2) rfl
      have d3 := (R2.out.row 0 rfl).cell (i := 3) rfl
      go_wp2_with fail
      refine (C5.out _ R2.out.old).mono ?_
      rintro e w3 ⟨rfl, o3⟩
      have R3 := hide (R2.out.mono o3)
      clear R2 o3 C5 d0 d1 d2 d3
      have cz : w3.cell? ⟨w1.heap.size, p, none⟩ = some (.int .i64 z) := by rw [HZ.out]; exact row_at (R3.out.row 2 rfl) (by rw [CL.out]; omega)
      have fz := (R3.out.row 2 rfl).free p
      have p0 : (0 : Int) ≤ p := by omega
      have p1 : (p : Int) < (n : Int) + 1 := by omega
      have R4 := hide (R3.out.setc 2 rfl p (.int .i64 (z + 1)))
      simp only [ints_set, List.set_cons_succ, List.set_cons_zero] at R4
      rw [← NB.out] at R4
      clear HZ NB CL
      go_wp2_with fail
      refine (CI.out _).mono ?_
      rintro e w5 ⟨rfl, o5⟩
      have R5 := hide ((R4.out.mono o5).alloc 27 [.int .u64 0, .int .u64 0] rfl)
      clear R3 R4 o5 CI cz fz ei ei'
      obtain ⟨cs', hcs⟩ : ∃ cs', cs' = cntL lo hi es (xs.take (i + 1)) := ⟨_, rfl⟩
      rw [← hcs] at R5
      have HCS := hide hcs
      clear hcs
      go_wp2_with (first
        | (refine wp_store_whole rfl 27 _ _ rfl w5.heap.size rfl (wc c) rfl (R5.out.row 5 rfl) infoW rfl (wc_one _) ?_; rintro w6 h6
           have R6 := hide (R5.out.store 5 rfl _ h6)
           clear h6 R5)
        | refine wp_load_whole rfl 27 _ rfl (w1.heap.size + 1) rfl (R6.out.row 3 rfl) Try.underlying27 rfl infoW ?_
        | refine wp_load_whole rfl 27 _ rfl w5.heap.size rfl (R6.out.row 5 rfl) Try.underlying27 rfl infoW ?_)
      refine (CA.out _).mono ?_
      rintro e w7 ⟨rfl, o7⟩
      have R7 := hide (R6.out.mono o7)
      clear R6 o7 CA
      revert R7
      generalize w5.heap.size = gx
      intro R7
      go_wp2_with (refine wp_store_whole rfl 27 _ _ rfl (w1.heap.size + 1) rfl (wc s') rfl (R7.out.row 3 rfl) infoW rfl (wc_one _) ?_; rintro w8 h8
                   have R8 := hide (R7.out.store 3 rfl _ h8)
                   clear h8 R7)
      clear w2 w3 w5 w7
      try simp only [Act.put]
      refine Ssz.region (Ext := Old) 5 (fun w' => Bxs w [(w.heap.size, 24, [.int .i64 lo, .int .i64 hi, .int .i64 mo, .slice a n cap]), (w.heap.size + 1, 29, stz), (w1.heap.size, 3, ints (cs')), (w1.heap.size + 1, 27, wc (s')), (w1.heap.size + 1 + 1, 27, wc (q)), (gx, 27, wc c)] w') (Ssz.Apart []) [66, 67, 68, 69, 70]
        [(66, Ssx.cst (.agg (wc q).toArray)), (67, Ssx.cst (.agg (wc c).toArray)), (68, Ssx.cst (.agg (wc c).toArray)), (69, Ssx.cst (m0)), (70, Ssx.cst (.agg (wc q').toArray))]
        [] (by kernel_rfl) (by kernel_rfl) (by kernel_rfl) (by simp) (by kernel_rfl) (by intro p hp; cases hp) (by kernel_rfl) (by kernel_rfl) Old.refl (R8.out.mono (Old.of_drewN _ _)) ?apart ?good ?behind
      case apart => exact ⟨fun s hs => by simp at hs, fun s hs => by simp at hs⟩
      case good =>
        have hE : ∀ w w' : World, Old w w' → w.heap.size ≤ w'.heap.size := fun _ _ h => h.size
        refine And.intro (.inr ⟨by kernel_rfl, Ssz.keep (Ssx.whole Old.refl rfl rfl (w1.heap.size + 1 + 1) (wc q) (fun _ _ h => h) (fun _ h => (h.row 4 rfl).rngX) Try.underlying27 rfl infoW (fun _ => rfl)) hE (by kernel_rfl)⟩) ?_
        refine And.intro (.inr ⟨by kernel_rfl, Ssz.keep (Ssx.whole Old.refl rfl rfl (gx) (wc c) (fun _ _ h => h) (fun _ h => (h.row 5 rfl).rngX) Try.underlying27 rfl infoW (fun _ => rfl)) hE (by kernel_rfl)⟩) ?_
        refine And.intro (.inr ⟨by kernel_rfl, Ssz.keep (Ssx.whole Old.refl rfl rfl (gx) (wc c) (fun _ _ h => h) (fun _ h => (h.row 5 rfl).rngX) Try.underlying27 rfl infoW (fun _ => rfl)) hE (by kernel_rfl)⟩) ?_
        refine And.intro (.inr ⟨by kernel_rfl, Ssz.keep (Ssx.call rfl fun a' w' hC hop => ⟨26, #[.agg (wc c).toArray, .agg (wc c).toArray], ?_, (CM.out w').mono fun _ _ ⟨h1, h2⟩ => ⟨_, h1, hC.mono h2, h2, rfl⟩⟩) hE (by kernel_rfl)⟩) ?_
        · have h0 : a'.eval (.tmp 67) = .agg (wc c).toArray := hop 67 (by simp [Op.operands, Call.operands])
          have h1 : a'.eval (.tmp 68) = .agg (wc c).toArray := hop 68 (by simp [Op.operands, Call.operands])
          simp [Act.eval] at h0 h1
          simp [h0, h1, go_sem]
        refine And.intro (.inr ⟨by kernel_rfl, Ssz.keep (Ssx.call rfl fun a' w' hC hop => ⟨25, #[.agg (wc q).toArray, m0], ?_, (CD.out w').mono fun _ _ ⟨h1, h2⟩ => ⟨_, h1, hC.mono h2, h2, rfl⟩⟩) hE (by kernel_rfl)⟩) ?_
        · have h0 : a'.eval (.tmp 66) = .agg (wc q).toArray := hop 66 (by simp [Op.operands, Call.operands])
          have h1 : a'.eval (.tmp 69) = m0 := hop 69 (by simp [Op.operands, Call.operands])
          simp [Act.eval] at h0 h1
          simp [h0, h1, go_sem]
        exact trivial
      case behind =>
        intro vals wb hC hD hv
        have v66 : vals 66 = _ := hv _ (.head _)
        have v67 : vals 67 = _ := hv _ (.tail _ (.head _))
        have v68 : vals 68 = _ := hv _ (.tail _ (.tail _ (.head _)))
        have v69 : vals 69 = _ := hv _ (.tail _ (.tail _ (.tail _ (.head _))))
        have v70 : vals 70 = _ := hv _ (.tail _ (.tail _ (.tail _ (.tail _ (.head _)))))
        simp only [Ssa.putAll, List.map_cons, List.map_nil, List.foldl_cons, List.foldl_nil, List.setIfInBounds_toArray, List.set_cons_succ, List.set_cons_zero, v66, v67, v68, v69, v70, List.drop_succ_cons, List.drop_zero]
        have R9 := hide hC
        clear hC hD hv v66 v67 v68 v69 v70 R8 CM CD
        clear vals
        go_wp2_with (refine wp_store_whole rfl 27 _ _ rfl (w1.heap.size + 1 + 1) rfl (wc q') rfl (R9.out.row 4 rfl) infoW rfl (wc_one _) ?_; rintro w10 h10
                     have RA := hide (R9.out.store 4 rfl _ h10)
                     clear h10)
        try rw [iw]
        refine ⟨⟨i + 1, by omega, rfl, ?_⟩, by simp [intOf]; omega⟩
        rw [← HS'.out.1, ← HS'.out.2, ← HCS.out]
        exact RA.out.take 5
    · obtain rfl : i = k := by omega
      have t3 : decide (i < i) = false := by simp
      have t3' : decide ((i : Int) < (i : Int)) = false := by simp
      have e1 : xs.take i = xs := List.take_of_length_le (by rw [HK.out.1]; exact Nat.le_refl _)
      rw [e1] at R
      have CT := hide (fun wr : World => told_any (some ⟨w1.heap.size, 0, none⟩) (n + 1) (n + 1) (i : Int) (sumZ lo hi xs) (sqZ lo hi xs) (by have := HB.out.1; have := HK.out; omega) (by have := HB.out.2; have := HK.out; omega) wr)
      simp only [wz_arr] at CT
      clear e1 HB HC C3 C4 HS HE HK hl
      obtain ⟨S, hS⟩ : ∃ S, S = SV.of (i : Int) (sumZ lo hi xs) (zN (sqZ lo hi xs)) := ⟨_, rfl⟩
      rw [← hS] at CT
      have HS := hide hS
      clear hS
      go_wp2_with (first
        | refine wp_load_whole rfl 27 _ rfl (w1.heap.size + 1) rfl (R.out.row 3 rfl) Try.underlying27 rfl infoW ?_
        | refine wp_load_whole rfl 27 _ rfl (w1.heap.size + 1 + 1) rfl (R.out.row 4 rfl) Try.underlying27 rfl infoW ?_)
      refine (CT.out _).mono ?_
      rintro e w2 ⟨rfl, o2⟩
      have R2 := hide (R.out.mono o2)
      clear R o2 CT
      unfold sv
      go_wp2_with (refine wp_store_whole rfl 29 _ _ rfl (w.heap.size + 1) rfl (S.cells (some ⟨w1.heap.size, 0, none⟩) (n + 1) (n + 1)) rfl (R2.out.row 1 rfl) infoSt rfl (sv_one _ _ _ _) ?_; rintro w9 h9
                   have E9 := hide (R2.out.store 1 rfl _ h9)
                   clear h9)
      exact bodyPost_ret (v := .tuple #[.agg (S.cells (some ⟨w1.heap.size, 0, none⟩) (n + 1) (n + 1)).toArray, .int .i64 0]) (results_cell_tmp rfl rfl rfl (E9.out.row 1 rfl) Try.underlying29 rfl infoSt) rfl ⟨w1.heap.size, (E9.out.rows 2 _ rfl).1, by rw [← HS.out]; rfl, E9.out.row 2 rfl, E9.out.old⟩

theorem of13 : OfC13 := by
  intro lo hi mo a n cap es b k ck xs w F S hk
  by_cases hs : soundZ lo hi mo es = 0
  · refine (of_ok cap b k ck xs w F hs S hk).mono ?_
    rintro e w' ⟨g, lg, rfl, R, o⟩
    refine ⟨_, by rw [hs], o, fun _ => ⟨g, n + 1, [], by rw [cntL_length, F.len], lg, by rw [List.append_nil]; exact R⟩, fun h => absurd hs h⟩
  · refine (of_bad cap b k ck w F hs).mono ?_
    rintro e w' ⟨rfl, o⟩
    exact ⟨_, rfl, o, fun h => absurd h hs, fun _ => ⟨none, 0, rfl⟩⟩

set_option maxHeartbeats 2000000 in
theorem equal_any {a b : Option Addr} {n m : Nat} {xs ys : List Int} (ca cb : Nat) (w : World) (hn : n ≤ 9223372036854775807) (lx : xs.length = n) (ly : ys.length = m) (rx : Rd w a (ints xs)) (ry : Rd w b (ints ys)) :
    Calls Try.prog 37 #[.slice a n ca, .slice b m cb] w fun e w' => e = .returned (.bool (decide (xs = ys))) ∧ Old w w' := by
  have LX := hide lx
  have LY := hide ly
  have HN := hide hn
  have RX := hide rx
  have RY := hide ry
  clear rx ry lx ly hn
  by_cases hnm : n = m
  · subst hnm
    have t0 : ((n : Int) != n) = false := by simp
    have t0' : (n != n) = false := by simp
    go_enter Try.func37, Try.ntmps37
    go_wp2_with fail
    clear t0 t0'
    go_loopw [13] (fun vi wr => ∃ k : Nat, k ≤ n ∧ vi = .int .i64 (k : Int) ∧ Hid (xs.take k = ys.take k) ∧ Hid (Old w wr)) (fun vi _ => n - (intOf vi).toNat)
    case atStart => exact ⟨0, Nat.zero_le _, rfl, rfl, Old.refl _⟩
    case round =>
      obtain ⟨k, hk, rfl, HT, R⟩ := hrel
      by_cases hl : k < n
      · have t3 : decide (k < n) = true := by simpa using hl
        have t3' : decide ((k : Int) < (n : Int)) = true := by simp; omega
        obtain ⟨b1, o1, rfl, cx⟩ := rd_int (RX.out.mono R.out) (i := k) (by rw [LX.out]; exact hl)
        obtain ⟨b2, o2, rfl, cy⟩ := rd_int (RY.out.mono R.out) (i := k) (by rw [LY.out]; exact hl)
        have NX := hide (fun e => take_stepI HT.out (by rw [LX.out]; exact hl) (by rw [LY.out]; exact hl) e)
        have ND : Hid (xs.getD k 0 ≠ ys.getD k 0 → decide (xs = ys) = false) := fun h => decide_eq_false fun e => h (by rw [e])
        have q0 : (0 : Int) ≤ k := by omega
        have q1 : (k : Int) < n := by omega
        generalize xs.getD k 0 = x at cx NX ND
        generalize ys.getD k 0 = y at cy NX ND
        by_cases hxy : x = y
        · subst hxy
          have t4 : (x != x) = false := by simp
          have NY : Hid (xs.take (k + 1) = ys.take (k + 1)) := NX.out rfl
          have iw : wrap64 ((k : Int) + 1) = ((k + 1 : Nat) : Int) := by have := HN.out; unfold wrap64; omega
          clear NX ND
          go_wp2_with fail
          go_quiet (fail)
          go_wp2
          try rw [iw]
          exact ⟨⟨k + 1, by omega, rfl, NY, R.out.drewN _⟩, by simp [intOf]; omega⟩
        · have t4 : (x != y) = true := by simpa using hxy
          have E := hide (ND.out hxy)
          clear NX ND
          go_wp2_with fail
          go_quiet (fail)
          go_wp2
          go_ret
          exact ⟨by rw [E.out]; rfl, R.out.drewN _⟩
      · obtain rfl : k = n := by omega
        have t3 : decide (k < k) = false := by simp
        have t3' : decide ((k : Int) < (k : Int)) = false := by simp
        have EX : Hid (decide (xs = ys) = true) := decide_eq_true (by
          have := HT.out
          rw [List.take_of_length_le (by rw [LX.out]; exact Nat.le_refl _), List.take_of_length_le (by rw [LY.out]; exact Nat.le_refl _)] at this
          exact this)
        go_wp2
        go_ret
        exact ⟨by rw [EX.out]; rfl, R.out⟩
  · have t0 : (n != m) = true := by simpa using hnm
    have t0' : ((n : Int) != (m : Int)) = true := by simp; omega
    have E : Hid (decide (xs = ys) = false) := decide_eq_false fun e => hnm (by rw [← LX.out, ← LY.out, e])
    rw [E.out]
    go_enter Try.func37, Try.ntmps37
    go_wp2
    go_ret
    exact ⟨rfl, Old.refl _⟩

set_option maxHeartbeats 4000000 in
theorem same13 : SameC13 := by
  intro s t a b n m ca cb xs ys w hn hm lx ly rx ry
  have C1 := hide (fun (wr : World) (o : Old w wr) => equal_any (a := a) (b := b) ca cb wr hn lx ly (rx.mono o) (ry.mono o))
  obtain ⟨c1, h1, l1, p1, r1, n1⟩ := s
  obtain ⟨c2, h2, l2, p2, r2, n2⟩ := t
  have B0 : Hid (Bxs w [(w.heap.size, 29, [.slice a n ca, .int .i64 c1, .int .u64 (h1 : Nat), .int .u64 (l1 : Nat), .int .u64 (p1 : Nat), .int .u64 (r1 : Nat), .bool n1]), (w.heap.size + 1, 29, [.slice b m cb, .int .i64 c2, .int .u64 (h2 : Nat), .int .u64 (l2 : Nat), .int .u64 (p2 : Nat), .int .u64 (r2 : Nat), .bool n2])] ((w.alloc (.cells #[.slice a n ca, .int .i64 c1, .int .u64 (h1 : Nat), .int .u64 (l1 : Nat), .int .u64 (p1 : Nat), .int .u64 (r1 : Nat), .bool n1] 29)).alloc (.cells #[.slice b m cb, .int .i64 c2, .int .u64 (h2 : Nat), .int .u64 (l2 : Nat), .int .u64 (p2 : Nat), .int .u64 (r2 : Nat), .bool n2] 29))) :=
    ((Bxs.nil w).alloc 29 [.slice a n ca, .int .i64 c1, .int .u64 (h1 : Nat), .int .u64 (l1 : Nat), .int .u64 (p1 : Nat), .int .u64 (r1 : Nat), .bool n1] rfl).alloc 29 [.slice b m cb, .int .i64 c2, .int .u64 (h2 : Nat), .int .u64 (l2 : Nat), .int .u64 (p2 : Nat), .int .u64 (r2 : Nat), .bool n2] (by rw [World.size_alloc])
  have e1 : Hid (decide (xs = ys ∧ (SV.mk c1 h1 l1 p1 r1 n1) = SV.mk c2 h2 l2 p2 r2 n2) = (decide (xs = ys) && (decide (c1 = c2) && decide (h1 = h2) && decide (l1 = l2) && decide (p1 = p2) && decide (r1 = r2) && decide (n1 = n2)))) := by
    rw [Hid, Bool.eq_iff_iff]
    simp [and_assoc]
  obtain ⟨D, hD⟩ : ∃ D, D = decide (xs = ys ∧ (SV.mk c1 h1 l1 p1 r1 n1) = SV.mk c2 h2 l2 p2 r2 n2) := ⟨_, rfl⟩
  rw [← hD] at e1 ⊢
  unfold sv
  simp only
  clear rx ry lx ly hn hm hD
  generalize decide (xs = ys) = E at C1 e1
  go_enter Try.func17, Try.ntmps17
  go_wp2_with fail
  refine (C1.out _ B0.out.old).mono ?_
  rintro e w1 ⟨rfl, o1⟩
  have B1 := hide (B0.out.mono o1)
  clear B0 o1 C1
  have a1 := (B1.out.row 0 rfl).cell (i := 1) rfl
  have a2 := (B1.out.row 0 rfl).cell (i := 2) rfl
  have a3 := (B1.out.row 0 rfl).cell (i := 3) rfl
  have a4 := (B1.out.row 0 rfl).cell (i := 4) rfl
  have a5 := (B1.out.row 0 rfl).cell (i := 5) rfl
  have a6 := (B1.out.row 0 rfl).cell (i := 6) rfl
  have b1 := (B1.out.row 1 rfl).cell (i := 1) rfl
  have b2 := (B1.out.row 1 rfl).cell (i := 2) rfl
  have b3 := (B1.out.row 1 rfl).cell (i := 3) rfl
  have b4 := (B1.out.row 1 rfl).cell (i := 4) rfl
  have b5 := (B1.out.row 1 rfl).cell (i := 5) rfl
  have b6 := (B1.out.row 1 rfl).cell (i := 6) rfl
  have OO := hide B1.out.old
  clear B1
  cases E
  · have F : Hid (D = false) := by rw [Hid, e1.out]; rfl
    clear e1
    go_wp2
    go_ret
    exact ⟨by rw [F.out]; rfl, OO.out⟩
  · have F : Hid (D = (decide (c1 = c2) && decide (h1 = h2) && decide (l1 = l2) && decide (p1 = p2) && decide (r1 = r2) && decide (n1 = n2))) := by rw [Hid, e1.out, Bool.true_and]
    clear e1
    go_wp2
    all_goals
      go_ret
      refine ⟨?_, OO.out⟩
      rw [F.out]
      refine congrArg (fun b => Ending.returned (Value.bool b)) ?_
      rw [Bool.eq_iff_iff]
      simp only [Bool.and_eq_true, decide_eq_true_eq]
      constructor
      · intro hq
        first
          | exact absurd hq (by decide)
          | exact ⟨⟨⟨⟨⟨by omega, by omega⟩, by omega⟩, by omega⟩, by omega⟩, by assumption⟩
      · rintro ⟨⟨⟨⟨⟨k1, k2⟩, k3⟩, k4⟩, k5⟩, k6⟩
        first
          | trivial
          | (exfalso; omega)
          | contradiction

theorem statsK : StatsK := ⟨of13, decode13, same13⟩
end Go.Proofs.Ythaaajepolahfaa
