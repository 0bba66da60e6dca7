/-
  Layer 12 as it landed: what tally's Encode answers.
-/
import Derived.Test.YtegegfoogkpncaaDoorEachD
import Derived.Test.YtegegfoogkpncaaDoorMulD
import Derived.Test.YtegegfoogkpncaaDoorLayD
import Derived.Test.YtegegfoogkpncaaDoorBinD
namespace Go.Proofs.YtegegfoogkpncaaDoor
open Go.RowKit Pn
set_option linter.unusedVariables false

/-- The vector, and a plan in its box. -/
structure Cw (w0 w : World) (lo hi mo : Int) (a : Option Addr) (n cap gv : Nat) (vs : List Nat) (wr : World) : Prop where
  cl : Cl w0 gv vs wr
  box : Row wr w.heap.size 24 [.int .i64 lo, .int .i64 hi, .int .i64 mo, .slice a n cap]
  lt : gv < w.heap.size
theorem Cw.mono {w0 w : World} {lo hi mo : Int} {a : Option Addr} {n cap gv : Nat} {vs : List Nat} {wr w' : World} (h : Cw w0 w lo hi mo a n cap gv vs wr) (o : Old wr w') : Cw w0 w lo hi mo a n cap gv vs w' := ⟨h.cl.mono o, h.box.mono o, h.lt⟩
theorem Cw.next {w0 w : World} {lo hi mo : Int} {a : Option Addr} {n cap gv : Nat} {vs vs' : List Nat} {wr w' : World} (h : Cw w0 w lo hi mo a n cap gv vs wr) (c : Cl w0 gv vs' w') (g : wr.grownBy w' (some gv)) : Cw w0 w lo hi mo a n cap gv vs' w' :=
  ⟨c, h.box.grown g (by have := h.lt; omega), h.lt⟩

set_option maxHeartbeats 4000000 in
theorem countBits_any {w0 : World} {lo hi mo : Int} {a : Option Addr} {n : Nat} {es : List Int} (cap : Nat) {b : Option Addr} {k : Nat} (ck : Nat) {xs : List Int} {gv o1 o2 : Nat} (c d : Nat) (T : Tab w0) (F : Fit w0 lo hi mo a n es) (hs : soundZ lo hi mo es = 0) (S : Sam w0 b k xs) (hk : k ≤ 65536)
    (h1 : o1 = es.length + 2) (h2 : o2 = es.length + 2 + bN lo hi) (w : World) (C : Cl w0 gv (vec2 lo hi es (bN lo hi) xs []) w) :
    Calls Tryd.prog 20 #[pv lo hi mo a n cap, .slice b k ck, .slice (some ⟨gv, o1, none⟩) (bN lo hi) c, .slice (some ⟨gv, o2, none⟩) (2 * bN lo hi) d] w fun e w' => e = .returned (.int .i64 0) ∧ Cl w0 gv (vec2 lo hi es (bN lo hi) xs xs) w' := by
  have C0 : Hid (Cw w0 w lo hi mo a n cap gv (vec2 lo hi es (bN lo hi) xs (xs.take 0)) (w.alloc (.cells #[.int .i64 lo, .int .i64 hi, .int .i64 mo, .slice a n cap] 24))) :=
    ⟨by rw [List.take_zero]; exact C.mono (Old.of_alloc _ _), Row.new _ _ _, C.row.lt⟩
  obtain ⟨q1, _, q3⟩ := sound_of hs
  unfold bad1 at q1
  have b40 : bN lo hi ≤ 40 := (bits_40 (d := (hi - lo).toNat) (by omega)).2
  have PL : Hid (∀ x, plN lo hi x < 2 ^ bN lo hi ∧ plN lo hi x < 1099511627776) := fun x => ⟨plN_lt lo hi x (by omega), by
    have := clampZ_in (lo := lo) (hi := hi) (x := x) (by omega)
    unfold plN
    omega⟩
  have PC : Hid (∀ x, B64 x → ∀ wr, Old w0 wr → Calls Tryd.prog 29 #[pv lo hi mo a n cap, .int .i64 x] wr fun e w' => e = .returned (.tuple #[.int .u64 ((plN lo hi x : Nat) : Int), .int .i64 0]) ∧ Old wr w') := fun x hx wr o => by
    have := place10 lo hi mo x a n cap es wr hx (F.mono o)
    rw [hs] at this
    have e : placeS 0 lo hi x = ((plN lo hi x : Nat) : Int) := by
      have := clampZ_in (lo := lo) (hi := hi) (x := x) (by omega)
      unfold placeS plN
      rw [if_pos rfl]
      omega
    rw [e] at this
    exact this
  have VL : Hid (∀ ys, (vec2 lo hi es (bN lo hi) xs ys).length = es.length + 2 + 3 * bN lo hi) := fun ys => vec2_length lo hi es (bN lo hi) xs ys
  have VN : Hid (∀ ys x, addB o2 (plN lo hi x * plN lo hi x) (addB o1 (plN lo hi x) (vec2 lo hi es (bN lo hi) xs ys)) = vec2 lo hi es (bN lo hi) xs (ys ++ [x])) := fun ys x => by
    rw [h1, h2]
    exact vec2_next lo hi es (bN lo hi) xs ys x (PL.out x).1
  have H12 := hide (And.intro h1 h2)
  have TT := hide T
  have SS := hide (fun wr (o : Old w0 wr) => S.mono o)
  have HK := hide S.len
  have HX := hide S.each
  have hmf : ∀ (fn : Fn) (first cap : Array Value) (w : World), (Instr.makeFunc fn first cap).run Tryd.prog w = .ok (.func fn first cap) w := fun _ _ _ _ => rfl
  unfold pv at *
  clear C q1 q3 F S T hs h1 h2
  generalize bN lo hi = bb at *
  go_enter Tryd.func20, Tryd.ntmps20
  go_wp2_with fail
  go_loopw [21] (fun v wr => ∃ i : Nat, i ≤ k ∧ v = .int .i64 (i : Int) ∧ Hid (Cw w0 w lo hi mo a n cap gv (vec2 lo hi es bb xs (xs.take i)) wr)) (fun v _ => k - (intOf v).toNat)
  case atStart => exact ⟨0, Nat.zero_le _, rfl, C0⟩
  case round =>
    clear C0 hmf
    obtain ⟨i, hi', rfl, R⟩ := hrel
    by_cases hl : i < k
    · have t3 : decide ((i : Int) < (k : Int)) = true := by simp; omega
      obtain ⟨b', off, rfl, hc⟩ := rd_int (SS.out _ R.out.cl.old).rd (i := i) (by rw [HK.out]; exact hl)
      obtain ⟨x, hx⟩ : ∃ x, x = xs.getD i 0 := ⟨_, rfl⟩
      rw [← hx] at hc
      have hil : i < xs.length := by rw [HK.out]; exact hl
      have xb : B64 x := by
        refine HX.out x ?_
        rw [hx]
        simp [List.getD, hil]
      have NT : Hid (xs.take (i + 1) = xs.take i ++ [x]) := by
        show xs.take (i + 1) = _
        rw [List.take_add_one, List.getElem?_eq_getElem hil, Option.toList_some, hx]
        simp [List.getD, hil]
      have V2 := hide (VN.out (xs.take i) x)
      rw [← NT.out] at V2
      have P2 := hide (PC.out x xb)
      obtain ⟨p1, p2⟩ := PL.out x
      revert V2 P2
      generalize plN lo hi x = pp at p1 p2 ⊢
      intro V2 P2
      have E1 : Hid (∀ wr, Cl w0 gv (vec2 lo hi es bb xs (xs.take i)) wr → Calls Tryd.prog 30 #[.agg #[.int .u64 0, .int .u64 (pp : Nat)], .func (.func 28) #[.slice (some ⟨gv, o1, none⟩) bb c] #[]] wr fun e w' => e = .returned (.tuple #[]) ∧ Cl w0 gv (addB o1 pp (vec2 lo hi es bb xs (xs.take i))) w' ∧ wr.grownBy w' (some gv)) := fun wr h => by
        have := eachOne_any (off := o1) (n := bb) (cp := c) (m := pp) TT.out (by unfold Wd.M; omega) p1 (by omega) (by rw [VL.out, H12.out.1]; omega) wr h
        rw [show wv pp = .agg #[.int .u64 0, .int .u64 (pp : Nat)] by
            unfold wv
            rw [show Wd.hi pp = 0 by unfold Wd.hi; omega, show Wd.lo pp = pp by unfold Wd.lo; omega]
            rfl] at this
        exact this
      have E2 : Hid (∀ wr, Cl w0 gv (addB o1 pp (vec2 lo hi es bb xs (xs.take i))) wr → Calls Tryd.prog 30 #[wv (pp * pp), .func (.func 28) #[.slice (some ⟨gv, o2, none⟩) (2 * bb) d] #[]] wr fun e w' => e = .returned (.tuple #[]) ∧ Cl w0 gv (vec2 lo hi es bb xs (xs.take (i + 1))) w' ∧ wr.grownBy w' (some gv)) := fun wr h => by
        have := eachOne_any (off := o2) (n := 2 * bb) (cp := d) (m := pp * pp) TT.out (by
          have : pp * pp < 1099511627776 * 1099511627776 := Nat.mul_lt_mul'' p2 p2
          unfold Wd.M; omega) (sq_lt p1) (by omega) (by rw [addB_length, VL.out, H12.out.2]; omega) wr h
        rw [V2.out] at this
        exact this
      have MU := hide (fun wr => mul_any pp pp (by omega) (by omega) wr)
      unfold wv at E2 MU
      revert E2 MU
      generalize Wd.hi (pp * pp) = qh
      generalize Wd.lo (pp * pp) = ql
      intro E2 MU
      have ib : (i : Int) ≤ 65535 := by omega
      have i0 : (0 : Int) ≤ i := by omega
      clear hx xb NT V2 p1 p2 hil
      have c0 := R.out.box.cell (i := 0) rfl
      have c1 := R.out.box.cell (i := 1) rfl
      have c2 := R.out.box.cell (i := 2) rfl
      have c3 := R.out.box.cell (i := 3) rfl
      go_wp2_with fail
      refine (P2.out _ R.out.cl.old).mono ?_
      rintro e w2 ⟨rfl, o2'⟩
      have R2 := hide (R.out.mono o2')
      clear R o2' c0 c1 c2 c3 hc P2
      go_wp2_with fail
      refine (E1.out _ R2.out.cl).mono ?_
      rintro e w3 ⟨rfl, h3, g3⟩
      have R3 := hide (R2.out.next h3 g3)
      clear R2 h3 g3 E1
      go_wp2_with fail
      refine (MU.out _).mono ?_
      rintro e w4 ⟨rfl, o4⟩
      have R4 := hide (R3.out.mono o4)
      clear R3 o4 MU
      go_wp2_with fail
      refine (E2.out _ R4.out.cl).mono ?_
      rintro e w5 ⟨rfl, h5, g5⟩
      have R5 := hide (R4.out.next h5 g5)
      clear R4 h5 g5 E2
      go_wp2
      go_roundw
      case rel => exact ⟨i + 1, by omega, by go_num, R5⟩
      case measure => simp [intOf]; omega
    · obtain rfl : i = k := by omega
      have t3 : decide ((i : Int) < (i : Int)) = false := decide_eq_false (by omega)
      go_wp2
      go_ret
      have R' := R.out.cl
      rw [List.take_of_length_le (by rw [HK.out]; omega)] at R'
      exact ⟨rfl, R'⟩
/-- What lies in the world while the counts are written: the plan and the layout in their boxes, the counts, the vector. -/
structure Ec (w : World) (lo hi mo : Int) (a : Option Addr) (n cap : Nat) (es : List Int) (gc : Nat) (tc : TypeId) (cs : List Value) (gl : Nat) (x y z : Int) (gv : Nat) (vs : List Nat) (wr : World) : Prop where
  bx : Bx w w.heap.size lo hi mo a n cap es wr
  cn : Row wr gc tc cs
  ly : Row wr gl 42 [.int .i64 x, .int .i64 y, .int .i64 z]
  row : Row wr gv 38 (nums .u32 vs)
  lt : w.heap.size < gv
  nc : gc ≠ gv
  nl : gl ≠ gv
  fa : ∀ x, 0 < (ints es).length → a = some x → x.block ≠ gv
section
variable {w : World} {lo hi mo : Int} {a : Option Addr} {n cap : Nat} {es : List Int} {gc : Nat} {tc : TypeId} {cs : List Value} {gl : Nat} {x y z : Int} {gv : Nat} {vs : List Nat} {wr w' : World}
theorem Ec.mono (h : Ec w lo hi mo a n cap es gc tc cs gl x y z gv vs wr) (o : Old wr w') : Ec w lo hi mo a n cap es gc tc cs gl x y z gv vs w' := ⟨h.bx.mono o, h.cn.mono o, h.ly.mono o, h.row.mono o, h.lt, h.nc, h.nl, h.fa⟩
theorem Ec.put (h : Ec w lo hi mo a n cap es gc tc cs gl x y z gv vs wr) (p u : Nat) : Ec w lo hi mo a n cap es gc tc cs gl x y z gv (vs.set p u) (wr.setCell ⟨gv, p, none⟩ (.int .u32 (u : Int))) := by
  have gr : wr.grownBy (wr.setCell ⟨gv, p, none⟩ (.int .u32 (u : Int))) (some gv) := grown_set _ _ _ _
  have lt := h.lt
  refine ⟨⟨h.bx.row.grown gr (by omega), ⟨h.bx.fit.lo, h.bx.fit.hi, h.bx.fit.mo, h.bx.fit.len, h.bx.fit.small, h.bx.fit.each, h.bx.fit.rd.grown gr h.fa⟩, h.bx.old.grown gr (by omega)⟩, h.cn.grown gr h.nc, h.ly.grown gr h.nl, ?_, h.lt, h.nc, h.nl, h.fa⟩
  rw [← nums_set]
  exact h.row.set p _
theorem Ec.cl (h : Ec w lo hi mo a n cap es gc tc cs gl x y z gv vs wr) : Cl w gv vs wr := ⟨h.bx.old, h.row, Nat.le_of_lt h.lt⟩
end
theorem cell_of {w : World} {g i : Nat} {t : TypeId} {vs : List Nat} (R : Row w g t (nums .u32 vs)) (hi : i < vs.length) : ∃ z : Nat, w.cell? ⟨g, i, none⟩ = some (.int .u32 (z : Int)) := ⟨vs[i], R.cell (by simp [nums, hi])⟩

set_option maxHeartbeats 8000000 in
theorem encode12_ok {lo hi mo : Int} {a : Option Addr} {n : Nat} {es : List Int} (cap : Nat) {b : Option Addr} {k : Nat} (capk : Nat) {xs : List Int} (w : World) (F : Fit w lo hi mo a n es) (S : Sam w b k xs) (T : Tab w) (hs : soundZ lo hi mo es = 0) (hm : (k : Int) ≤ mo) :
    Calls Tryd.prog 12 #[pv lo hi mo a n cap, .slice b k capk] w fun e w' => CountR w w' e 0 (nums .u32 (vecT lo hi es (bN lo hi) xs)) := by
  have B0 := hide (Bx.start cap F)
  have S0 := hide (S.mono (Old.of_alloc w (.cells #[.int .i64 lo, .int .i64 hi, .int .i64 mo, .slice a n cap] 24)))
  have k16 : k ≤ 65536 := by have := (ris_of hs).2.2; omega
  have X := hide (fun w F S => count11 lo hi mo a n cap es b k capk xs w F S)
  have Y := hide (fun w F => layoutOf_any (lo := lo) (hi := hi) (mo := mo) (a := a) (n := n) (es := es) cap w F)
  have Z := hide (fun (gv o1 o2 c d : Nat) h1 h2 wr C => countBits_any (w0 := w) (gv := gv) (o1 := o1) (o2 := o2) cap capk c d T F hs S k16 h1 h2 wr C)
  have HN := hide F.len
  have HK := hide S.len
  have nb : n ≤ 64 ∧ 1 ≤ bN lo hi ∧ bN lo hi ≤ 40 := by
    obtain ⟨h1, _, h3⟩ := sound_of hs
    unfold bad1 at h1
    unfold bad3 at h3
    have := bits_40 (d := (hi - lo).toNat) (by omega)
    have := HN.out
    unfold bN
    omega
  have E : layS 0 lo hi n = lyv (n + 1) (bN lo hi) (2 * bN lo hi) := by unfold layS; rw [if_pos rfl]
  rw [hs, E] at Y
  rw [hs, cap_ok rfl (by omega)] at X
  have YL := hide (fun w => length_any (n + 1) (bN lo hi) (2 * bN lo hi) (by omega) (by omega) (by omega) w)
  have YC := hide (fun gv w => columns_any (n + 1) (bN lo hi) (2 * bN lo hi) gv (by omega) (by omega) (by omega) (by omega) (by omega) w)
  have LE : lenN es (bN lo hi) = n + 1 + 1 + bN lo hi + 2 * bN lo hi := by unfold lenN; rw [HN.out]; omega
  have CT : Hid (∀ (rest : List Value) (i : Nat), i ≤ n → (ints (cntL lo hi es xs) ++ rest)[i]? = some (.int .i64 ((tot lo hi es (bN lo hi) i xs : Nat) : Int))) := fun rest i hi' => by
    have hl : i < (ints (cntL lo hi es xs)).length := by rw [ints_length, cntL_length, HN.out]; omega
    have hl2 : i < (cntL lo hi es xs).length := by rw [cntL_length, HN.out]; omega
    rw [List.getElem?_append_left hl, ← cnt_tot lo hi es (bN lo hi) xs (by rw [HN.out]; exact hi')]
    unfold ints
    simp [List.getD, hl2]
  have CL : Hid ((ints (cntL lo hi es xs)).length = n + 1) := by show _ = _; rw [ints_length, cntL_length, HN.out]
  have V0 := hide (vec0_nil lo hi es (bN lo hi) xs)
  have VN := hide (vec0_next lo hi es (bN lo hi) xs)
  have VA := hide (vec0_all lo hi es (bN lo hi) xs)
  have VL := hide (vec0_length lo hi es (bN lo hi) xs)
  have V2 := hide (vec2_all lo hi es (bN lo hi) xs)
  have VT := hide (vecT_length lo hi es (bN lo hi) xs)
  have TC := hide (tot_count lo hi es (bN lo hi) xs)
  rw [LE] at V0 VL VT
  rw [HN.out] at VA Z TC
  rw [HK.out] at TC
  unfold pv at *
  unfold lyv at *
  clear F S T hs hm LE E
  generalize bN lo hi = bb at *
  obtain ⟨n64, b1, b40⟩ := nb
  generalize hb2 : 2 * bb = b2 at *
  generalize hn2 : n + 1 = n2 at *
  generalize hL : n2 + 1 + bb + b2 = L at *
  have HB := hide (And.intro hb2 (And.intro hn2 (And.intro hL (And.intro n64 (And.intro b1 b40)))))
  have MK := make_u32 L (by omega)
  have l0 : (L : Int) ≤ 300 := by omega
  clear hb2 hn2 hL n64 b1 b40
  go_enter Tryd.func12, Tryd.ntmps12
  have c0 := B0.out.c0
  have c1 := B0.out.c1
  have c2 := B0.out.c2
  have c3 := B0.out.c3
  go_wp2_with fail
  refine (X.out _ B0.out.fit S0.out).mono ?_
  rintro e w1 ⟨v, rfl, o1, hv1, _⟩
  obtain ⟨gc, cc, tc, rest, rfl, hgc, RC⟩ := hv1 rfl
  have B1 := hide (B0.out.mono o1)
  have RC1 := hide RC
  rw [CL.out]
  clear B0 S0 o1 X c0 c1 c2 c3 hv1 RC CL hgc
  have c0 := B1.out.c0
  have c1 := B1.out.c1
  have c2 := B1.out.c2
  have c3 := B1.out.c3
  go_wp2_with fail
  refine (Y.out _ B1.out.fit).mono ?_
  rintro e w2 ⟨rfl, o2⟩
  have B2 := hide (B1.out.mono o2)
  have RC2 := hide (RC1.out.mono o2)
  clear B1 RC1 o2 Y c0 c1 c2 c3
  have R0 := hide (Row.new w2 42 [.int .i64 0, .int .i64 0, .int .i64 0])
  go_wp2_with (first
    | (refine wp_store_whole rfl 42 _ _ rfl w2.heap.size rfl [.int .i64 (n2 : Int), .int .i64 (bb : Int), .int .i64 (b2 : Int)] rfl R0.out infoLy rfl (three_ints _ _ _) ?_; rintro w9 h9
       have E9 := hide (lay_put w2 _ _ _ h9)
       have d0 := E9.out.1.cell (i := 0) rfl
       have d1 := E9.out.1.cell (i := 1) rfl
       have d2 := E9.out.1.cell (i := 2) rfl
       clear h9))
  refine (YL.out _).mono ?_
  rintro e w3 ⟨rfl, o3⟩
  have B3 := hide (B2.out.mono (E9.out.2.trans o3))
  have RC3 := hide (RC2.out.mono (E9.out.2.trans o3))
  have RL3 := hide (E9.out.1.mono o3)
  clear B2 RC2 E9 o3 YL d0 d1 d2 R0
  have EC : Hid (Ec w lo hi mo a n cap es gc tc (ints (cntL lo hi es xs) ++ rest) w2.heap.size n2 bb b2 w3.heap.size (vec0 lo hi es bb xs 0) (w3.alloc (.cells (nums .u32 (List.replicate L 0)).toArray 38))) := by
    refine ⟨B3.out.mono (Old.of_alloc _ _), RC3.out.mono (Old.of_alloc _ _), RL3.out.mono (Old.of_alloc _ _), ?_, B3.out.row.lt, by have := RC3.out.lt; omega, by have := RL3.out.lt; omega, ?_⟩
    · rw [V0.out]
      exact Row.new _ _ _
    · intro x hp hx
      have := B3.out.fit.rd.lt hx hp
      omega
  clear V0
  go_wp2_with fail
  clear B3 RC3 RL3 MK
  generalize w2.heap.size = gl at EC ⊢
  generalize w3.heap.size = gv at EC ⊢
  go_loopw [37] (fun v wr => ∃ i : Nat, i ≤ n2 ∧ v = .int .i64 (i : Int) ∧ Hid (Ec w lo hi mo a n cap es gc tc (ints (cntL lo hi es xs) ++ rest) gl n2 bb b2 gv (vec0 lo hi es bb xs i) wr)) (fun v _ => n2 - (intOf v).toNat)
  case atStart => exact ⟨0, Nat.zero_le _, rfl, EC⟩
  case round =>
    clear EC
    obtain ⟨i, hi', rfl, R⟩ := hrel
    by_cases hl : i < n2
    · have t3 : decide ((i : Int) < (n2 : Int)) = true := by simp; omega
      have hc := R.out.cn.cell (CT.out rest i (by have := HB.out; omega))
      have PT := hide (R.out.put i (tot lo hi es bb i xs % 4294967296))
      rw [← VN.out i] at PT
      obtain ⟨z, cz⟩ := cell_of R.out.row (i := i) (by rw [VL.out]; have := HB.out; omega)
      have fz := R.out.row.free i
      have ez : IntKind.u32.wrap ((tot lo hi es bb i xs : Nat) : Int) = ((tot lo hi es bb i xs % 4294967296 : Nat) : Int) := by
        generalize tot lo hi es bb i xs = t
        show (t : Int) % 4294967296 = _
        omega
      generalize tot lo hi es bb i xs % 4294967296 = t2 at PT ez
      generalize tot lo hi es bb i xs = t1 at hc ez
      have i0 : (0 : Int) ≤ i := by omega
      have i1 : (i : Int) < L := by have := HB.out; omega
      have ib : (i : Int) ≤ 300 := by omega
      clear R
      go_wp2
      go_roundw
      case rel => exact ⟨i + 1, by omega, by go_num, PT⟩
      case measure => simp [intOf]; omega
    · obtain rfl : i = n2 := by omega
      have t3 : decide ((i : Int) < (i : Int)) = false := decide_eq_false (by omega)
      have PT := hide (R.out.put i (k % 4294967296))
      have VK := VN.out i
      rw [show tot lo hi es bb i xs = k from TC.out] at VK
      rw [← VK, show i + 1 = n + 2 by have := HB.out.2.1; omega, VA.out] at PT
      obtain ⟨z, cz⟩ := cell_of R.out.row (i := i) (by rw [VL.out]; have := HB.out; omega)
      have fz := R.out.row.free i
      have ez : IntKind.u32.wrap (k : Int) = ((k % 4294967296 : Nat) : Int) := by
        show (k : Int) % 4294967296 = _
        omega
      have d0 := R.out.ly.cell (i := 0) rfl
      have d1 := R.out.ly.cell (i := 1) rfl
      have d2 := R.out.ly.cell (i := 2) rfl
      have ng : gl ≠ gv := R.out.nl
      have ng' : gv ≠ gl := fun h => ng h.symm
      have i0 : (0 : Int) ≤ i := by omega
      have i1 : (i : Int) < L := by have := HB.out; omega
      generalize k % 4294967296 = t2 at PT ez
      clear VK VN VA R CT
      go_wp2_with fail
      refine (YC.out gv _).mono ?_
      rintro e w4 ⟨c, d, rfl, o4⟩
      clear cz fz d0 d1 d2 ng ng' ez i0 i1
      generalize World.setCell wr ⟨gv, i, none⟩ (.int .u32 (t2 : Int)) = wc at PT o4
      have P4 := hide (PT.out.mono o4)
      clear PT o4 YC
      have c0 := P4.out.bx.c0
      have c1 := P4.out.bx.c1
      have c2 := P4.out.bx.c2
      have c3 := P4.out.bx.c3
      go_wp2_with fail
      refine (Z.out gv (i + 1) (i + 1 + bb) c d (by have := HB.out; omega) (by have := HB.out; omega) _ P4.out.cl).mono ?_
      rintro e w5 ⟨rfl, C5⟩
      rw [V2.out] at C5
      have C6 := hide C5
      clear c0 c1 c2 c3 P4 Z C5
      go_wp2
      go_ret2
      exact ⟨_, rfl, C6.out.old, fun _ => ⟨gv, L, 38, [], by rw [nums_length, VT.out]; rfl, C6.out.ge, by rw [List.append_nil]; exact C6.out.row⟩, fun h => absurd rfl h⟩

set_option maxHeartbeats 2000000 in
theorem encode12 : EncodeC12 := by
  intro lo hi mo a n cap es b k capk xs w F S T
  by_cases hq : capZ (soundZ lo hi mo es) mo k = 0
  · have hs : soundZ lo hi mo es = 0 := by
      by_cases h : soundZ lo hi mo es = 0
      · exact h
      · rw [cap_bad h] at hq
        exact absurd hq h
    have hm : (k : Int) ≤ mo := by
      by_cases h : (k : Int) ≤ mo
      · exact h
      · rw [cap_many hs (by omega)] at hq
        omega
    rw [hq]
    exact encode12_ok cap capk w F S T hs hm
  · have B0 := hide (Bx.start cap F)
    have S0 := hide (S.mono (Old.of_alloc w (.cells #[.int .i64 lo, .int .i64 hi, .int .i64 mo, .slice a n cap] 24)))
    have X := hide (fun w F S => count11 lo hi mo a n cap es b k capk xs w F S)
    unfold pv at *
    clear F S T
    generalize capZ (soundZ lo hi mo es) mo k = q at *
    have t : (q != 0) = true := by simpa using hq
    have HQ := hide hq
    clear hq
    go_enter Tryd.func12, Tryd.ntmps12
    have c0 := B0.out.c0
    have c1 := B0.out.c1
    have c2 := B0.out.c2
    have c3 := B0.out.c3
    go_wp2_with fail
    refine (X.out _ B0.out.fit S0.out).mono ?_
    rintro e w1 ⟨v, rfl, o1, _, _⟩
    have O1 := B0.out.old.trans o1
    clear B0 S0 o1 X c0 c1 c2 c3
    go_wp2
    go_ret2
    exact ⟨_, rfl, O1, fun h => absurd h HQ.out, fun _ => ⟨_, _, rfl⟩⟩

theorem tallyK : TallyK := ⟨len12, encode12⟩
end Go.Proofs.YtegegfoogkpncaaDoor
