/-
  The walk of layer 12's statement TallyOrder, if the layer's calls are what they owe.
-/
import Derived.Test.YtegegfoogkpncaaDoorLaws12c
import Derived.Test.YtegegfoogkpncaaDoorOwnI
namespace Go.Proofs.YtegegfoogkpncaaDoor
open Go.RowKit Pn
set_option linter.unusedVariables false

def okV (f : Int) (vs : List Nat) : List Nat := if f = 0 then vs else []
theorem Ru.rdv {B L : Nat} {f : Int} {vs : List Nat} {v : Value} {w : World} (hL : vs.length = L) (h : Ru B L f vs v w) : ∃ a n c, v = .slice a n c ∧ (okV f vs).length = n ∧ Rd w a (nums .u32 (okV f vs)) ∧ n ≤ L ∧ ∀ x, 0 < (nums .u32 (okV f vs)).length → a = some x → B ≤ x.block := by
  unfold okV
  by_cases hf : f = 0
  · obtain ⟨g, c, t, rest, h1, h2, h3⟩ := h.1 hf
    refine ⟨_, _, _, h1, ?_, ?_, Nat.le_refl _, fun x _ hx => by cases hx; exact h2⟩
    · rw [if_pos hf]; exact hL
    · rw [if_pos hf]; exact rd_front h3
  · obtain ⟨a, c, h1⟩ := h.2 hf
    refine ⟨_, _, _, h1, ?_, ?_, Nat.zero_le _, ?_⟩
    · rw [if_neg hf]; rfl
    · rw [if_neg hf]; exact Rd.nil _
    · rw [if_neg hf]
      intro x h
      simp [nums] at h

/-- The plan, the samples, and those turned, in a slice of the call's own. -/
structure Or (w : World) (lo hi mo : Int) (a : Option Addr) (n cap : Nat) (es : List Int) (b : Option Addr) (k : Nat) (xs : List Int) (v : Value) (ts : List Int) (wr : World) : Prop where
  bx : Bx w w.heap.size lo hi mo a n cap es wr
  sam : Sam wr b k xs
  own : OwnsI wr (w.heap.size + 1) v ts
  fa : ∀ x, 0 < (ints es).length → a = some x → x.block < w.heap.size
  fb : ∀ x, 0 < (ints xs).length → b = some x → x.block < w.heap.size
section
variable {w : World} {lo hi mo : Int} {a : Option Addr} {n cap : Nat} {es : List Int} {b : Option Addr} {k : Nat} {xs : List Int} {v : Value} {ts : List Int} {wr w' : World}
theorem Or.mono (h : Or w lo hi mo a n cap es b k xs v ts wr) (o : Old wr w') : Or w lo hi mo a n cap es b k xs v ts w' := ⟨h.bx.mono o, h.sam.mono o, h.own.mono o, h.fa, h.fb⟩
theorem rd_grown {w w' : World} {a : Option Addr} {vs : List Value} {r : Option Nat} (h : Rd w a vs) (hg : w.grownBy w' r) (hne : ∀ g, r = some g → ∀ x, 0 < vs.length → a = some x → x.block ≠ g) : Rd w' a vs := by
  cases r with
  | none =>
    intro i v hv
    obtain ⟨b, off, ha, hc⟩ := h i v hv
    exact ⟨b, off, ha, hg.cell hc (by simp)⟩
  | some g => exact h.grown hg (fun x h1 h2 => hne g rfl x h1 h2)
theorem row_grownO {w w' : World} {g : Nat} {t : TypeId} {vs : List Value} {r : Option Nat} (h : Row w g t vs) (hg : w.grownBy w' r) (hne : ∀ q, r = some q → g ≠ q) : Row w' g t vs := by
  have hl := h.lt
  unfold Row at *
  obtain ⟨_, _, _, _, h5⟩ := hg
  have e := h5 g hl (fun e => hne _ e.symm rfl)
  rw [e]
  exact h
theorem Or.bxg (h : Or w lo hi mo a n cap es b k xs v ts wr) {r : Option Nat} (hg : wr.grownBy w' r) (hr : ∀ q, r = some q → w.heap.size + 1 ≤ q) : Bx w w.heap.size lo hi mo a n cap es w' :=
  ⟨row_grownO h.bx.row hg (fun q hq => by have := hr q hq; omega), ⟨h.bx.fit.lo, h.bx.fit.hi, h.bx.fit.mo, h.bx.fit.len, h.bx.fit.small, h.bx.fit.each, rd_grown h.bx.fit.rd hg (fun q hq x h1 h2 => by have := hr q hq; have := h.fa x h1 h2; omega)⟩, h.bx.old.grownO hg (fun q hq => by have := hr q hq; omega)⟩
theorem Or.grown (h : Or w lo hi mo a n cap es b k xs v ts wr) {r : Option Nat} (hg : wr.grownBy w' r) (hr : ∀ q, r = some q → w.heap.size + 1 ≤ q) {v' : Value} {ts' : List Int} (own' : OwnsI w' (w.heap.size + 1) v' ts') : Or w lo hi mo a n cap es b k xs v' ts' w' :=
  ⟨h.bxg hg hr, ⟨h.sam.len, h.sam.small, h.sam.each, rd_grown h.sam.rd hg (fun q hq x h1 h2 => by have := hr q hq; have := h.fb x h1 h2; omega)⟩, own', h.fa, h.fb⟩
end

theorem cap_zero {s mo : Int} {k : Nat} (h : capZ s mo k = 0) : s = 0 := by
  by_cases hs : s = 0
  · exact hs
  · rw [cap_bad hs] at h; exact absurd h hs
theorem clamp_hi {lo hi x : Int} (h : lo ≤ hi) (hx : hi ≤ x) : clampZ lo hi x = hi := by
  unfold clampZ
  split
  · omega
  · split
    · rfl
    · omega
theorem okV_length {f : Int} {vs : List Nat} {N : Nat} (h : f = 0 → vs.length ≤ N) : (okV f vs).length ≤ N := by
  unfold okV
  split
  · next hf => exact h hf
  · exact Nat.zero_le _
/-- Its last number written. -/
theorem sam_last {w : World} {g : Nat} {t : TypeId} {xs : List Int} {rest : List Value} (R : Row w g t (ints xs ++ rest)) {m : Nat} (hm : xs.length = m + 1) (hs : m + 1 ≤ 9223372036854775807) (he : ∀ e ∈ xs, B64 e) {y : Int} (hy : B64 y) : Sam (w.setCell ⟨g, m, none⟩ (.int .i64 y)) (some ⟨g, 0, none⟩) (m + 1) (xs.set m y) := by
  refine ⟨by rw [List.length_set, hm], hs, fun e h => ?_, fun i v hv => ⟨_, _, rfl, ?_⟩⟩
  · rcases List.mem_or_eq_of_mem_set h with h | rfl
    · exact he e h
    · exact hy
  · rw [Nat.zero_add]
    have R2 := R.set m (.int .i64 y)
    rw [List.set_append_left _ _ (by rw [ints_length, hm]; omega), ints_set] at R2
    exact R2.cell (by rw [List.getElem?_append_left (List.getElem?_eq_some_iff.1 hv).1]; exact hv)

theorem drop_rev {xs : List Int} {i : Nat} (h : i < xs.length) : (xs.drop (i + 1)).reverse ++ [xs.getD i 0] = (xs.drop i).reverse := by
  rw [List.drop_eq_getElem_cons h, List.reverse_cons]
  simp [List.getD, h]

set_option maxRecDepth 100000 in
set_option maxHeartbeats 8000000 in
theorem walkK_TallyOrder (K : TallyK) (v0 v1 v2 : Value) (w : World) (w0 : IsPlan w v0) (w1 : IsSam w v1) (w2 : IsInt .i64 v2) (T : Tab w) :
    Calls Tryd.prog 6 #[v0, v1, v2] w fun e w' => e = .returned (.bool true) ∧ Old w w' := by
  obtain ⟨lo, hi, mo, a, n, cap, es, rfl, F⟩ := w0
  obtain ⟨b, k0, ck, xs0, rfl, hkc, S0⟩ := w1
  obtain ⟨y, hy, rfl⟩ := isI64 w2
  have B := hide (Bx.start cap F)
  have HS := hide S0
  have HA : Hid (∀ x, 0 < (ints es).length → a = some x → x.block < w.heap.size) := fun x h1 h2 => F.rd.lt h2 h1
  have C0 := hide (fun (wr : World) (o : Old w wr) => awake12 K wr (T.mono o))
  have C1 := hide (fun (b : Option Addr) (k ck : Nat) (xs : List Int) (wr : World) (o : Old w wr) (h : Fit wr lo hi mo a n es) (h2 : Sam wr b k xs) => (K.encode lo hi mo a n cap es b k ck xs wr h h2 (T.mono o)).mono fun _ _ hh => Ru.of (vecT_length lo hi es (bN lo hi) xs) hh)
  have HY := hide hy
  unfold pv at C1 ⊢
  clear K F S0 hy w2 T
  go_enter Tryd.func6, Tryd.ntmps6
  go_upto_if 17 with fail
  go_cut [1] (fun v wc => wc = w.alloc (.cells #[.int .i64 lo, .int .i64 hi, .int .i64 mo, .slice a n cap] 24) ∧ ∃ (k : Nat) (xs : List Int), v = .slice b k ck ∧ Hid (Sam w b k xs) ∧ k ≤ 150)
  case first =>
    by_cases h : 150 < k0
    · have d : decide ((150 : Int) < k0) = true := decide_eq_true (by omega)
      have d2 : (150 : Int) ≤ ck := by omega
      go_wp2_with fail
      go_meet
      exact ⟨rfl, 150, xs0.take 150, rfl, HS.out.cut (by omega), Nat.le_refl _⟩
    · have d : decide ((150 : Int) < k0) = false := decide_eq_false (by omega)
      go_wp2_with fail
      go_meet
      exact ⟨rfl, k0, xs0, rfl, HS.out, by omega⟩
  case rest =>
    obtain ⟨rfl, k, xs, rfl, S, hk⟩ := hcut
    clear HS hkc
    have HK := hide S.out.len
    have OR : Hid (Or w lo hi mo a n cap es b k xs (.slice (some ⟨w.heap.size + 1, 0, none⟩) 0 0) (xs.drop k).reverse ((w.alloc (.cells #[.int .i64 lo, .int .i64 hi, .int .i64 mo, .slice a n cap] 24)).alloc (.cells #[] 3))) := by
      refine ⟨B.out.mono (Old.of_alloc _ _), (S.out.mono (Old.of_alloc _ _)).mono (Old.of_alloc _ _), ?_, HA.out, fun x h1 h2 => S.out.rd.lt h2 h1⟩
      rw [List.drop_eq_nil_of_le (by rw [HK.out]; exact Nat.le_refl _)]
      have h := OwnsI.empty (w.alloc (.cells #[.int .i64 lo, .int .i64 hi, .int .i64 mo, .slice a n cap] 24)) (w.heap.size + 1) (by rw [World.size_alloc]; exact Nat.le_refl _)
      rw [World.size_alloc] at h
      exact h
    have kb : (k : Int) ≤ 150 := by omega
    go_wp2_with fail
    clear B S HA
    revert OR
    generalize (w.alloc (.cells #[.int .i64 lo, .int .i64 hi, .int .i64 mo, .slice a n cap] 24)).alloc (.cells #[] 3) = wd
    intro OR
    go_loopw [7, 8] (fun v vi wr => ∃ (z : Int) (j : Nat), z = j - 1 ∧ j ≤ k ∧ vi = .int .i64 z ∧ Hid (Or w lo hi mo a n cap es b k xs v (xs.drop j).reverse wr)) (fun _ vi _ => (intOf vi + 1).toNat)
    case atStart => exact ⟨(k : Int) - 1, k, rfl, Nat.le_refl _, rfl, OR⟩
    case round =>
      clear OR
      obtain ⟨z, j, hz, hj, rfl, R⟩ := hrel
      by_cases h0 : 0 < j
      · obtain ⟨i, rfl⟩ : ∃ i, j = i + 1 := ⟨j - 1, by omega⟩
        obtain rfl : z = (i : Int) := by omega
        have hl : i < xs.length := by rw [HK.out]; omega
        obtain ⟨bb, off, rfl, hc⟩ := rd_int R.out.sam.rd hl
        have d : decide ((0 : Int) ≤ i) = true := decide_eq_true (by omega)
        have q0 : (0 : Int) ≤ i := by omega
        have q1 : (i : Int) < k := by omega
        have HL : Hid ((xs.drop (i + 1)).reverse.length < 1099511627776) := by show _ < _; rw [List.length_reverse, List.length_drop, HK.out]; omega
        have HB := hide (show w.heap.size + 1 ≤ _ from R.out.bx.row.lt)
        have HD := hide (drop_rev hl)
        clear hz hl h0
        go_wp2_with (refine wp_appendI rfl _ _ rfl (w.heap.size + 1) _ (xs.drop (i + 1)).reverse rfl (R.out.own.mono (Old.of_alloc _ _)) _ _ (xs.getD i 0) rfl ((Row.new _ 3 [_]).cell rfl) HL.out (Nat.le_trans HB.out (Old.of_alloc _ _).size) ?_; rintro v2 w2 ow2 gr2)
        go_roundw
        case rel =>
          refine ⟨(i : Int) - 1, i, rfl, by omega, by go_num, ?_⟩
          rw [HD.out] at ow2
          exact (R.out.mono (Old.of_alloc _ _)).grown gr2 (fun q hq => (R.out.own.lt hq).1) ow2
        case measure => simp [intOf]
      · obtain rfl : j = 0 := by omega
        obtain rfl : z = -1 := by omega
        rw [List.drop_zero] at R
        clear h0 hz hj
        obtain ⟨ta, tc, hv, htc, hrd⟩ := R.out.own.rd
        rw [List.length_reverse, HK.out] at hv
        have ST : Hid (Sam _ ta k xs.reverse) := ⟨by rw [List.length_reverse, HK.out], R.out.sam.small, fun e he => R.out.sam.each e (List.mem_reverse.1 he), hrd⟩
        have HG : Hid (∀ g c, Value.slice ta k tc = .slice (some ⟨g, 0, none⟩) k c → 0 < k → g < _) := fun g c hgc hk0 => R.out.own.lt (by rw [hv, hgc]; rfl) |>.2
        subst hv
        clear htc hrd
        have a0 := R.out.bx.c0
        have a1 := R.out.bx.c1
        have a2 := R.out.bx.c2
        have a3 := R.out.bx.c3
        go_wp2_with fail
        refine (C1.out b k ck xs _ R.out.bx.old R.out.bx.fit R.out.sam).mono ?_
        rintro e w1 ⟨vx, rfl, o1, RX⟩
        have T1 := hide (R.out.mono o1)
        have ST1 := hide (ST.out.mono o1)
        have RX1 := hide RX
        clear R ST o1 RX a0 a1 a2 a3
        have a0 := T1.out.bx.c0
        have a1 := T1.out.bx.c1
        have a2 := T1.out.bx.c2
        have a3 := T1.out.bx.c3
        go_wp2_with fail
        refine (C1.out ta k tc xs.reverse _ T1.out.bx.old T1.out.bx.fit ST1.out).mono ?_
        rintro e w2 ⟨vy, rfl, o2, RY⟩
        rw [vecT_reverse] at RY
        have T2 := hide (T1.out.mono o2)
        have RX2 := hide (RX1.out.mono o2)
        have RY2 := hide RY
        clear T1 ST1 RX1 RY o2 a0 a1 a2 a3
        have HF : Hid (capZ (soundZ lo hi mo es) mo k = 0 → lenN es (bN lo hi) ≤ 256) := fun h => by
          obtain ⟨h1, _, h3⟩ := sound_of (cap_zero h)
          unfold bad1 at h1
          unfold bad3 at h3
          have := bits_40 (d := (hi - lo).toNat) (by omega)
          unfold lenN bN
          omega
        have HV : Hid (capZ (soundZ lo hi mo es) mo k = 0 → 0 < k → ¬ xs.getD 0 0 < hi → ¬ y < hi → vecT lo hi es (bN lo hi) (xs.reverse.set (k - 1) y) = vecT lo hi es (bN lo hi) xs) := fun h hk0 hx hy' => by
          obtain ⟨h1, _, _⟩ := sound_of (cap_zero h)
          unfold bad1 at h1
          have e := vecT_far es (bN lo hi) (lo := lo) (hi := hi) (xs := xs) (y := y) (by rw [HK.out]; exact hk0) (by rw [clamp_hi (by omega) (by omega), clamp_hi (by omega) (by omega)])
          rw [HK.out] at e
          exact e
        have C5 := hide (fun (b : Option Addr) (ck : Nat) (ys : List Int) (wr : World) (o : Old w wr) (h : Fit wr lo hi mo a n es) (h2 : Sam wr b k ys) => C1.out b k ck ys wr o h h2)
        revert C5 HF HV RX2 RY2
        generalize capZ (soundZ lo hi mo es) mo k = f
        intro RX2 RY2 HF HV C5
        clear C1
        have VL := hide (vecT_length lo hi es (bN lo hi) xs)
        obtain ⟨ax, nx, cx, rfl, lx, rx, _, bx⟩ := RX2.out.rdv VL.out
        obtain ⟨ay, ny, cy, rfl, ly, ry, _, _⟩ := RY2.out.rdv VL.out
        obtain rfl : nx = ny := lx.symm.trans ly
        have HN : Hid (nx ≤ 256) := by
          show _ ≤ _
          rw [← lx]
          exact okV_length (fun h => by rw [VL.out]; exact HF.out h)
        have LX := hide lx
        have RX3 := hide rx
        have RY3 := hide ry
        have BX := hide bx
        clear RX2 RY2 lx ly rx ry bx
        have t1 : (f != f) = false := by simp
        go_wp2_with fail
        refine (C0.out _ T2.out.bx.old).mono ?_
        rintro e w3 ⟨rfl, o3⟩
        have T3 := hide (T2.out.mono o3)
        have RX4 := hide (RX3.out.mono o3)
        have RY4 := hide (RY3.out.mono o3)
        clear T2 RX3 RY3 o3 C0
        go_wp2_with fail
        refine (R1.Cells_any nx nx _ _ ax ay cx cy _ (Nat.le_trans HN.out (by omega)) LX.out LX.out RX4.out RY4.out).mono ?_
        rintro e w4 ⟨rfl, o4⟩
        rw [decide_eq_true rfl]
        have T4 := hide (T3.out.mono o4)
        have RX5 := hide (RX4.out.mono o4)
        clear T3 RX4 RY4 o4
        have O4 := hide T4.out.bx.old
        by_cases z : f = 0
        · subst z
          by_cases k0 : k = 0
          · subst k0
            go_wp2_with fail
            go_quiet (fail)
            go_wp2
            go_ret
            exact ⟨rfl, O4.out.drewN _⟩
          · have a1 := T4.out.bx.c1
            obtain ⟨bb, off, rfl, hc⟩ := rd_int T4.out.sam.rd (i := 0) (by rw [HK.out]; omega)
            rw [Nat.add_zero] at hc
            have t2 : ((k : Int) == 0) = false := by simp; omega
            have q0 : (0 : Int) < k := by omega
            revert HV hc
            generalize xs.getD 0 0 = x0
            intro HV hc
            by_cases c1 : x0 < hi
            · have t3 : decide (x0 < hi) = true := decide_eq_true c1
              clear HV c1
              go_wp2_with fail
              go_quiet (fail)
              go_wp2
              go_ret
              exact ⟨rfl, O4.out.drewN _⟩
            · by_cases c2 : y < hi
              · have t3 : decide (x0 < hi) = false := decide_eq_false c1
                have t4 : decide (y < hi) = true := decide_eq_true c2
                clear HV c1 c2
                go_wp2_with fail
                go_quiet (fail)
                go_wp2
                go_ret
                exact ⟨rfl, O4.out.drewN _⟩
              · have t3 : decide (x0 < hi) = false := decide_eq_false c1
                have t4 : decide (y < hi) = false := decide_eq_false c2
                have EV := hide (HV.out rfl (by omega) (by omega) (by omega))
                clear HV c1 c2
                obtain ⟨m, rfl⟩ : ∃ m, k = m + 1 := ⟨k - 1, by omega⟩
                rw [Nat.add_sub_cancel] at EV
                go_wp2_with fail
                go_quiet (fail)
                have T5 := hide (T4.out.mono (Old.of_drewN w4 nq))
                have RX6 := hide (RX5.out.mono (Old.of_drewN w4 nq))
                clear T4 RX5 O4 a1 hc
                revert T5 RX6
                generalize w4.drewN nq = w5
                intro T5 RX6
                obtain ⟨g, gc, rest, hv, hb, RW⟩ := T5.out.own.row (by rw [List.length_reverse, HK.out]; omega)
                rw [List.length_reverse, HK.out] at hv
                obtain ⟨rfl, rfl⟩ : ta = some ⟨g, 0, none⟩ ∧ tc = gc := by simpa using hv
                have GL := hide (HG.out g tc rfl (by omega))
                have SY := hide (sam_last RW (m := m) (by rw [List.length_reverse, HK.out]) (by omega) (fun e he => T5.out.sam.each e (List.mem_reverse.1 he)) HY.out)
                have gr := hide (grown_set w5 g m (.int .i64 y))
                have B5 := hide (T5.out.bxg gr.out (fun q hq => by cases hq; exact hb))
                have RX7 := hide (RX6.out.grown gr.out (fun x h1 h2 => by have := BX.out x h1 h2; have := GL.out; omega))
                obtain ⟨u, hu⟩ : ∃ u, (ints xs.reverse ++ rest)[m]? = some (.int .i64 u) := ⟨xs.reverse[m]'(by rw [List.length_reverse, HK.out]; omega), by rw [List.getElem?_append_left (by rw [ints_length, List.length_reverse, HK.out]; omega), ints, List.getElem?_map, List.getElem?_eq_getElem]; rfl⟩
                have cs := RW.cell hu
                have fs := RW.free m
                have a0 := B5.out.c0
                have a1 := B5.out.c1
                have a2 := B5.out.c2
                have a3 := B5.out.c3
                clear hv hb RW T5 RX6 gr hu HG HF BX GL
                go_wp2_with fail
                refine (C5.out (some ⟨g, 0, none⟩) tc (xs.reverse.set m y) _ B5.out.old B5.out.fit SY.out).mono ?_
                rintro e w6 ⟨vz, rfl, o6, RZ⟩
                rw [EV.out] at RZ
                obtain ⟨az, nz, cz, rfl, lz, rz, _, _⟩ := RZ.rdv VL.out
                obtain rfl : nx = nz := LX.out.symm.trans lz
                have O6 := hide (B5.out.old.trans o6)
                have RX8 := hide (RX7.out.mono o6)
                have RZ2 := hide rz
                clear B5 SY RX7 RZ lz rz o6 a0 a1 a2 a3 cs fs C5
                go_wp2_with fail
                refine (R1.Cells_any nx nx _ _ ax az cx cz _ (Nat.le_trans HN.out (by omega)) LX.out LX.out RX8.out RZ2.out).mono ?_
                rintro e w7 ⟨rfl, o7⟩
                rw [decide_eq_true rfl]
                have O7 := O6.out.trans o7
                clear O6 RX8 RZ2 o7
                go_wp2
                go_ret
                exact ⟨rfl, O7⟩
        · have t2 : (f != 0) = true := by simpa using z
          clear HV HF C5
          go_wp2_with fail
          go_quiet (fail)
          go_wp2
          go_ret
          exact ⟨rfl, O4.out.drewN _⟩
end Go.Proofs.YtegegfoogkpncaaDoor
