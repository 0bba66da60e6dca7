/-
  The walks of layer 13's statements, if the layer's calls are what they owe: StatsTimes.
-/
import Derived.Test.YthaaajepolahfaaLaws13
import Derived.Test.YthaaajepolahfaaTimesN
namespace Go.Proofs.Ythaaajepolahfaa
open Go.RowKit Pn
set_option linter.unusedVariables false

/-- A plan in its box, and a vector of the call's own. -/
structure Tv (w : World) (gv : Nat) (pl : List Value) (vs : List Nat) (wr : World) : Prop where
  pl : Row wr w.heap.size 24 pl
  row : Row wr gv 43 (nums .u32 vs)
  lt : w.heap.size < gv
  old : Old w wr
section
variable {w : World} {gv : Nat} {pl : List Value} {vs : List Nat} {wr w' : World}
theorem Tv.mono (h : Tv w gv pl vs wr) (o : Old wr w') : Tv w gv pl vs w' := ⟨h.pl.mono o, h.row.mono o, h.lt, h.old.trans o⟩
theorem Tv.put (h : Tv w gv pl vs wr) (p z : Nat) : Tv w gv pl (vs.set p z) (wr.setCell ⟨gv, p, none⟩ (.int .u32 (z : Int))) := by
  have lt := h.lt
  have gr : wr.grownBy (wr.setCell ⟨gv, p, none⟩ (.int .u32 (z : Int))) (some gv) := grown_set _ _ _ _
  exact ⟨h.pl.grown gr (by omega), by rw [← nums_set]; exact h.row.set p _, lt, h.old.grown gr (by omega)⟩
end

set_option maxRecDepth 100000 in
set_option maxHeartbeats 4000000 in
theorem walkK_StatsTimes (K : StatsK) (v0 v1 v2 : Value) (w : World) (w0 : IsPlan w v0) (w1 : IsSam w v1) (w2 : IsInt .u32 v2) :
    Calls Try.prog 7 #[v0, v1, v2] w fun e w' => e = .returned (.bool true) ∧ Old w w' := by
  obtain ⟨lo, hi, mo, a, n, cap, es, rfl, F⟩ := w0
  obtain ⟨b, k, ck, xs, rfl, hkc, S0⟩ := w1
  obtain ⟨tz, rfl, htz⟩ := w2
  obtain ⟨t, rfl⟩ : ∃ t : Nat, tz = (t : Int) := ⟨tz.toNat, by have := bounds_u32 htz; omega⟩
  have tl : t < 4294967296 := by have := bounds_u32 htz; omega
  have B := hide (Bx.start cap F)
  have HS := hide S0
  have HF := hide F
  have HE := hide F.len
  have kl := S0.len
  have ks := S0.small
  have C0 := hide (awake13 K)
  have C1 := hide (fun (m cm : Nat) (bb : Option Addr) (vs : List Nat) (wr : World) (h : Fit wr lo hi mo a n es) (h2 : Vc wr bb m vs) (hc : m ≤ cm) => K.decode lo hi mo a n cap es bb m cm vs wr h h2 hc)
  have C2 := hide (fun (wr : World) (h : Fit wr lo hi mo a n es) => refSound10_any cap wr h)
  have C3 := hide (fun (hs : soundZ lo hi mo es = 0) (wr : World) (h : Fit wr lo hi mo a n es) (h2 : Sam wr b k xs) => refStats13_any cap b k ck xs wr h hs h2)
  have C4 := hide (fun (hs : soundZ lo hi mo es = 0) (wr : World) (h : Fit wr lo hi mo a n es) (h2 : Sam wr b k xs) => refEncode12_any cap b k ck xs wr h hs h2)
  rw [show bitsN (hi - lo).toNat = bP lo hi from rfl] at C4
  unfold pv at C1 C2 C3 C4 ⊢
  clear K F S0 htz
  go_enter Try.func7, Try.ntmps7
  go_wp2_with fail
  refine (C2.out _ B.out.fit).mono ?_
  rintro e w1 ⟨rfl, o1⟩
  have B1 := hide (B.out.mono o1)
  clear B o1 C2
  have quit : ∀ wr : World, Old w wr → Calls Try.prog 10 #[] wr fun e w' => e = .returned (.bool true) ∧ Old wr w' := fun wr _ => C0.out wr
  by_cases hs : soundZ lo hi mo es = 0
  · rw [hs]
    by_cases hk0 : k = 0
    · subst hk0
      have QQ := hide quit
      clear quit
      go_wp2_with fail
      refine (C0.out _).mono ?_
      rintro e w5 ⟨rfl, o5⟩
      have O := B1.out.old.trans o5
      clear B1 o5
      go_wp2
      go_ret
      exact ⟨rfl, O⟩
    · have t1 : ((k : Int) == 0) = false := by simpa using hk0
      have t1' : (k == 0) = false := by simpa using hk0
      by_cases hk6 : 60 < k
      · have t2 : decide ((60 : Int) < (k : Int)) = true := by simp; omega
        clear quit
        go_wp2_with fail
        refine (C0.out _).mono ?_
        rintro e w5 ⟨rfl, o5⟩
        have O := B1.out.old.trans o5
        clear B1 o5
        go_wp2
        go_ret
        exact ⟨rfl, O⟩
      · have t2 : decide ((60 : Int) < (k : Int)) = false := by simp; omega
        by_cases ht0 : t = 0
        · subst ht0
          clear quit
          go_wp2_with fail
          refine (C0.out _).mono ?_
          rintro e w5 ⟨rfl, o5⟩
          have O := B1.out.old.trans o5
          clear B1 o5
          go_wp2
          go_ret
          exact ⟨rfl, O⟩
        · have t3 : ((t : Int) == 0) = false := by simpa using ht0
          have t3' : (t == 0) = false := by simpa using ht0
          have e1 : IntKind.u64.wrap (t : Int) = t := by show (t : Int) % 18446744073709551616 = t; omega
          have e2 : IntKind.u64.wrap (k : Int) = k := by show (k : Int) % 18446744073709551616 = k; omega
          obtain ⟨tk, htk⟩ : ∃ tk : Nat, tk = t * k := ⟨_, rfl⟩
          have tkl : tk ≤ 60 * 4294967296 := by rw [htk, Nat.mul_comm]; exact Nat.mul_le_mul (by omega) (by omega)
          have e3 : IntKind.u64.wrap ((t : Int) * (k : Int)) = (tk : Int) := by rw [← Int.natCast_mul, ← htk]; show (tk : Int) % 18446744073709551616 = tk; omega
          by_cases htk2 : 4294967296 ≤ tk
          · have t4 : decide ((4294967296 : Int) ≤ (tk : Int)) = true := by simp; omega
            clear quit htk2 tkl htk tl ks
            go_wp2_with fail
            refine (C0.out _).mono ?_
            rintro e w5 ⟨rfl, o5⟩
            have O := B1.out.old.trans o5
            clear B1 o5
            go_wp2
            go_ret
            exact ⟨rfl, O⟩
          · have t4 : decide ((4294967296 : Int) ≤ (tk : Int)) = false := by simp; omega
            have HT := hide (And.intro htk (And.intro htk2 (And.intro tl (And.intro hk0 (And.intro hk6 ht0)))))
            have HKL := hide kl
            clear quit htk2 tkl htk tl ks hk0 hk6 ht0 kl
            have p0 := B1.out.c0
            have p1 := B1.out.c1
            have p2 := B1.out.c2
            have p3 := B1.out.c3
            go_wp2_with fail
            refine (C4.out hs _ B1.out.fit (HS.out.mono B1.out.old)).mono ?_
            rintro e w2 ⟨gv, hgv, rfl, RV, o2⟩
            obtain ⟨L, hL⟩ : ∃ L, L = lenN es (bP lo hi) := ⟨_, rfl⟩
            have MT := hide (fun c (hc : c < L) => mulTo_next t lo hi es (bP lo hi) xs (c := c) (by rw [← hL]; exact hc))
            have MG := hide (fun c (hc : c < L) => mulTo_get t lo hi es (bP lo hi) xs (c := c) (by rw [← hL]; exact hc))
            have MA := hide (mulTo_all t lo hi es (bP lo hi) xs)
            rw [← hL] at MA ⊢
            have TL : Hid (∀ c, t * tot lo hi es (bP lo hi) c xs < 4294967296) := fun c => by
              have h1 := Nat.mul_le_mul_left t (tot_le lo hi es (bP lo hi) c xs)
              have h2 := HT.out
              rw [HKL.out] at h1
              omega
            have T0 : Hid (Tv w gv [.int .i64 lo, .int .i64 hi, .int .i64 mo, .slice a n cap] (mulTo t lo hi es (bP lo hi) xs 0) w2) := by
              rw [mulTo_zero t lo hi es (bP lo hi) xs (by rw [HKL.out]; have := HT.out; omega)]
              exact ⟨B1.out.row.mono o2, RV, Nat.lt_of_lt_of_le B1.out.row.lt hgv, B1.out.old.trans o2⟩
            have LL : L ≤ 186 := by
              have h1 := (sound_of hs).2.2
              have h2 := (sound_of hs).1
              have h3 := bits_40 (d := (hi - lo).toNat) (by unfold bad1 at h2; omega)
              have h4 := HE.out
              rw [hL]
              unfold lenN bP
              unfold bad3 at h1
              omega
            have HLL := hide (And.intro hL LL)
            clear RV o2 hgv hL p0 p1 p2 p3 B1 C4
            go_wp2_with fail
            go_loopw [8] (fun vi wr => ∃ i : Nat, i ≤ L ∧ vi = .int .i64 (i : Int) ∧ Hid (Tv w gv [.int .i64 lo, .int .i64 hi, .int .i64 mo, .slice a n cap] (mulTo t lo hi es (bP lo hi) xs i) wr)) (fun vi _ => L - (intOf vi).toNat)
            case atStart => exact ⟨0, Nat.zero_le _, rfl, T0⟩
            case round =>
              clear T0
              obtain ⟨i, hi', rfl, R⟩ := hrel
              by_cases hl : i < L
              · have t5 : decide (i < L) = true := by simpa using hl
                have t5' : decide ((i : Int) < (L : Int)) = true := by simp; omega
                obtain ⟨z, hz⟩ : ∃ z, z = tot lo hi es (bP lo hi) i xs := ⟨_, rfl⟩
                have MG1 := MG.out i hl
                have MT1 := hide (MT.out i hl)
                have TL1 := TL.out i
                rw [← hz] at MG1 MT1 TL1
                have cz : wr.cell? ⟨gv, i, none⟩ = some (.int .u32 (z : Nat)) := R.out.row.cell (by unfold nums; rw [List.getElem?_map, MG1]; rfl)
                have fz := R.out.row.free i
                obtain ⟨y, hy⟩ : ∃ y, y = t * z := ⟨_, rfl⟩
                rw [← hy] at MT1 TL1
                have ey : IntKind.u32.wrap ((z : Int) * (t : Int)) = (y : Int) := by
                  rw [← Int.natCast_mul, Nat.mul_comm, ← hy]
                  show (y : Int) % 4294967296 = y
                  omega
                have R1 := hide (R.out.put i y)
                rw [← MT1.out] at R1
                have j0 : (0 : Int) ≤ i := by omega
                have j1 : (i : Int) < L := by omega
                have HYY := hide TL1
                clear hz hy MG1 TL1
                go_wp2
                go_roundw
                case rel => exact ⟨i + 1, by omega, by simp, R1⟩
                case measure => simp [intOf]; omega
              · obtain rfl : i = L := by omega
                have t5 : decide (i < i) = false := by simp
                have t5' : decide ((i : Int) < (i : Int)) = false := by simp
                rw [MA.out] at R
                have p0 := R.out.pl.cell (i := 0) rfl
                have p1 := R.out.pl.cell (i := 1) rfl
                have p2 := R.out.pl.cell (i := 2) rfl
                have p3 := R.out.pl.cell (i := 3) rfl
                have hlh : lo ≤ hi := by have h2 := (sound_of hs).1; unfold bad1 at h2; omega
                have hpl : ∀ x : Int, plN lo hi x < 2 ^ bP lo hi := plN_lt hlh
                have hn := HE.out
                have hbits : n + 2 ≤ i := by rw [HLL.out.1]; unfold lenN; omega
                have VT : Vc wr (some ⟨gv, 0, none⟩) i (vecM t lo hi es (bP lo hi) xs) := ⟨by rw [vecM_length]; exact HLL.out.1.symm, by have := HLL.out.2; omega, vecM_lt (by rw [HKL.out]; have := HT.out; omega), R.out.row.rd⟩
                have DE : decE (soundZ lo hi mo es) es (bP lo hi) i (vecM t lo hi es (bP lo hi) xs) = 0 := by
                  unfold decE
                  rw [if_neg (by simpa using hs), if_neg (by simpa using HLL.out.1), head_M]
                  rfl
                obtain ⟨A0, hA0⟩ : ∃ A0, A0 = (sumZ lo hi xs).natAbs := ⟨_, rfl⟩
                obtain ⟨Q0, hQ0⟩ : ∃ Q0, Q0 = zN (sqZ lo hi xs) := ⟨_, rfl⟩
                obtain ⟨ng, hng⟩ : ∃ ng : Bool, ng = decide (sumZ lo hi xs < 0) := ⟨_, rfl⟩
                have VS : SV.of (cnV n (vecM t lo hi es (bP lo hi) xs) : Nat) (dsum lo n (bP lo hi) (vecM t lo hi es (bP lo hi) xs)) (zN (dsq lo n (bP lo hi) (vecM t lo hi es (bP lo hi) xs))) = ⟨(tk : Nat), Wd.hi (A0 * t), Wd.lo (A0 * t), Wd.hi (Q0 * t), Wd.lo (Q0 * t), ng⟩ := by
                  rw [← hn, cnV_M, dsum_M hlh hpl, dsq_M hlh hpl, HKL.out, ← HT.out.1]
                  unfold SV.of
                  have e1 : ((t : Int) * sumZ lo hi xs).natAbs = A0 * t := by rw [hA0, Int.natAbs_mul, Int.natAbs_natCast, Nat.mul_comm]
                  have e2 : decide ((t : Int) * sumZ lo hi xs < 0) = ng := by
                    have ht : (0 : Int) < t := by have := HT.out; omega
                    rw [hng, Bool.eq_iff_iff, decide_eq_true_eq, decide_eq_true_eq]
                    constructor
                    · intro h
                      apply Int.not_le.1
                      intro h'
                      have := Int.mul_nonneg (Int.le_of_lt ht) h'
                      omega
                    · intro h
                      exact Int.mul_neg_of_pos_of_neg ht h
                  rw [e1, e2, (hl_times t _).1, (hl_times t _).2, hQ0]
                have ON : SV.of (k : Nat) (sumZ lo hi xs) (zN (sqZ lo hi xs)) = ⟨(k : Nat), Wd.hi A0, Wd.lo A0, Wd.hi Q0, Wd.lo Q0, ng⟩ := by
                  unfold SV.of
                  rw [hA0, hQ0, hng]
                have LN : (binsV n (vecM t lo hi es (bP lo hi) xs)).length = n + 1 := by
                  unfold binsV
                  rw [List.length_map, List.length_take, vecM_length, ← HLL.out.1]
                  omega
                have C5 := hide (C3.out hs)
                rw [ON] at C5
                unfold sv at C5
                have CO : Hid (∀ wr : World, Calls Try.prog 18 #[.agg #[.int .u64 0, .int .u64 (t : Nat)]] wr fun e w' => e = .returned (bv t) ∧ Old wr w') := fun wr => by
                  have := refOf9_any t wr
                  rw [show wv t = .agg #[.int .u64 0, .int .u64 (t : Nat)] by
                    have := HT.out
                    unfold wv
                    rw [show Wd.hi t = 0 by unfold Wd.hi; omega, show Wd.lo t = t by unfold Wd.lo; omega]
                    rfl] at this
                  exact this
                have F1 := hide (fun wr : World => refOf9_any A0 wr)
                have F2 := hide (fun wr : World => refMul9_any A0 t wr)
                have F3 := hide (fun wr : World => refWide9_any (A0 * t) wr)
                have F4 := hide (fun wr : World => refOf9_any Q0 wr)
                have F5 := hide (fun wr : World => refMul9_any Q0 t wr)
                have F6 := hide (fun wr : World => refWide9_any (Q0 * t) wr)
                unfold bv at F1 F2 F3 F4 F5 F6
                unfold wv at F1 F3 F4 F6
                unfold bv at CO
                clear hA0 hQ0 hng ON hpl hlh
                have C6 := hide (C1.out i i (some ⟨gv, 0, none⟩) (vecM t lo hi es (bP lo hi) xs) wr (HF.out.mono R.out.old) VT (Nat.le_refl _))
                rw [DE, VS] at C6
                clear DE VS VT C1 C3
                revert C5 F1 F2 F3 F4 F5 F6 C6
                generalize Wd.hi (A0 * t) = H1
                generalize Wd.lo (A0 * t) = L1
                generalize Wd.hi (Q0 * t) = H2
                generalize Wd.lo (Q0 * t) = L2
                generalize Wd.hi A0 = h1
                generalize Wd.lo A0 = l1
                generalize Wd.hi Q0 = h2
                generalize Wd.lo Q0 = l2
                generalize (Value.agg (nums .u32 (Wd.bigL A0)).toArray) = X1
                generalize (Value.agg (nums .u32 (Wd.bigL Q0)).toArray) = X2
                generalize (Value.agg (nums .u32 (Wd.bigL (A0 * t))).toArray) = X3
                generalize (Value.agg (nums .u32 (Wd.bigL (Q0 * t))).toArray) = X4
                intro C5 F1 F2 F3 F4 F5 F6 C6
                simp only at C5
                go_wp2_with fail
                refine C6.out.mono ?_
                rintro e w3 ⟨v, rfl, o3, ok, _⟩
                obtain ⟨g, cg, rest, rfl, _, _⟩ := ok rfl
                have R3 := hide (R.out.mono o3)
                clear R o3 ok C6 p0 p1 p2 p3
                rw [LN]
                unfold sv
                simp only
                have D1 : Hid (Ds w w3.heap.size [.int .i64 lo, .int .i64 hi, .int .i64 mo, .slice a n cap] [.slice (some ⟨g, 0, none⟩) (n + 1) cg, .int .i64 (tk : Nat), .int .u64 (H1 : Nat), .int .u64 (L1 : Nat), .int .u64 (H2 : Nat), .int .u64 (L2 : Nat), .bool ng] (w3.alloc (.cells [.slice (some ⟨g, 0, none⟩) (n + 1) cg, .int .i64 (tk : Nat), .int .u64 (H1 : Nat), .int .u64 (L1 : Nat), .int .u64 (H2 : Nat), .int .u64 (L2 : Nat), .bool ng].toArray 29))) := ⟨R3.out.pl.mono (Old.of_alloc _ _), Row.new _ _ _, R3.out.old.trans (Old.of_alloc _ _)⟩
                have p0 := D1.out.pl.cell (i := 0) rfl
                have p1 := D1.out.pl.cell (i := 1) rfl
                have p2 := D1.out.pl.cell (i := 2) rfl
                have p3 := D1.out.pl.cell (i := 3) rfl
                go_wp2_with fail
                refine (C5.out _ (HF.out.mono D1.out.old) (HS.out.mono D1.out.old)).mono ?_
                rintro e w4 ⟨g2, _, rfl, _, o4⟩
                have D2 := hide (D1.out.mono o4)
                clear D1 o4 C5 R3 p0 p1 p2 p3
                revert D2
                generalize w3.heap.size = gs
                intro D2
                have E2 : Hid (Ds w gs [.int .i64 lo, .int .i64 hi, .int .i64 mo, .slice a n cap] [.slice (some ⟨g, 0, none⟩) (n + 1) cg, .int .i64 (tk : Nat), .int .u64 (H1 : Nat), .int .u64 (L1 : Nat), .int .u64 (H2 : Nat), .int .u64 (L2 : Nat), .bool ng] (w4.alloc (.cells [.slice (some ⟨g2, 0, none⟩) (n + 1) (n + 1), .int .i64 (k : Nat), .int .u64 (h1 : Nat), .int .u64 (l1 : Nat), .int .u64 (h2 : Nat), .int .u64 (l2 : Nat), .bool ng].toArray 29)) ∧ Row (w4.alloc (.cells [.slice (some ⟨g2, 0, none⟩) (n + 1) (n + 1), .int .i64 (k : Nat), .int .u64 (h1 : Nat), .int .u64 (l1 : Nat), .int .u64 (h2 : Nat), .int .u64 (l2 : Nat), .bool ng].toArray 29)) w4.heap.size 29 [.slice (some ⟨g2, 0, none⟩) (n + 1) (n + 1), .int .i64 (k : Nat), .int .u64 (h1 : Nat), .int .u64 (l1 : Nat), .int .u64 (h2 : Nat), .int .u64 (l2 : Nat), .bool ng]) := ⟨D2.out.mono (Old.of_alloc _ _), Row.new _ _ _⟩
                have e4 : IntKind.u64.wrap (t : Int) = t := e1
                go_wp2_with fail
                refine (CO.out _).mono ?_
                rintro e w5 ⟨rfl, o5⟩
                have E3 : Hid (Ds w gs [.int .i64 lo, .int .i64 hi, .int .i64 mo, .slice a n cap] [.slice (some ⟨g, 0, none⟩) (n + 1) cg, .int .i64 (tk : Nat), .int .u64 (H1 : Nat), .int .u64 (L1 : Nat), .int .u64 (H2 : Nat), .int .u64 (L2 : Nat), .bool ng] w5 ∧ Row w5 w4.heap.size 29 [.slice (some ⟨g2, 0, none⟩) (n + 1) (n + 1), .int .i64 (k : Nat), .int .u64 (h1 : Nat), .int .u64 (l1 : Nat), .int .u64 (h2 : Nat), .int .u64 (l2 : Nat), .bool ng]) := ⟨E2.out.1.mono o5, E2.out.2.mono o5⟩
                clear E2 o5 CO D2
                revert E3
                generalize w4.heap.size = g1
                intro E3
                have Z5 := hide (Row.new w5 45 (nums .u32 z8))
                go_wp2_with (refine wp_store_whole rfl 45 _ _ rfl w5.heap.size rfl (nums .u32 (Wd.bigL t)) rfl Z5.out (info8 (Wd.bigL_length _)) (by rw [nums_length, nums_length, Wd.bigL_length]; rfl) (nums_oneCell _ _) ?_; rintro w6 h6
                             have E6 : Hid (Ds w gs [.int .i64 lo, .int .i64 hi, .int .i64 mo, .slice a n cap] [.slice (some ⟨g, 0, none⟩) (n + 1) cg, .int .i64 (tk : Nat), .int .u64 (H1 : Nat), .int .u64 (L1 : Nat), .int .u64 (H2 : Nat), .int .u64 (L2 : Nat), .bool ng] w6 ∧ Row w6 g1 29 [.slice (some ⟨g2, 0, none⟩) (n + 1) (n + 1), .int .i64 (k : Nat), .int .u64 (h1 : Nat), .int .u64 (l1 : Nat), .int .u64 (h2 : Nat), .int .u64 (l2 : Nat), .bool ng] ∧ Row w6 w5.heap.size 45 (nums .u32 (Wd.bigL t))) := by
                               subst h6
                               have o6 : Old w5 ((w5.alloc (.cells (nums .u32 z8).toArray 45)).setRow w5.heap.size (nums .u32 (Wd.bigL t)).toArray) := (Old.of_alloc w5 _).grown (grown_setRow _ _ _) (Nat.le_refl _)
                               exact ⟨E3.out.1.mono o6, E3.out.2.mono o6, Z5.out.whole _⟩
                             clear h6)
                clear Z5 E3
                revert E6
                generalize w5.heap.size = gk
                intro E6
                try simp only [Act.put]
                have BT := hide (Wd.bigL_length t)
                revert E6 F2 F5 BT
                generalize Wd.bigL t = bt
                intro F2 F5 E6 BT
                have L0 : ∀ w', (∃ z : After w6, w' = z.to) → w'.rangeAt gk 0 (nums .u32 bt) := by rintro _ ⟨z, rfl⟩; exact (E6.out.2.2.mono z.old).rngX
                have L0' := hide L0
                clear L0
                have s1 : ∀ z : After w6, z.to.cell? ⟨gs, 1, none⟩ = some (.int .i64 (tk : Nat)) := fun z => (E6.out.1.mono z.old).st.cell (i := 1) rfl
                have s2 : ∀ z : After w6, z.to.cell? ⟨gs, 2, none⟩ = some (.int .u64 (H1 : Nat)) := fun z => (E6.out.1.mono z.old).st.cell (i := 2) rfl
                have s3 : ∀ z : After w6, z.to.cell? ⟨gs, 3, none⟩ = some (.int .u64 (L1 : Nat)) := fun z => (E6.out.1.mono z.old).st.cell (i := 3) rfl
                have s4 : ∀ z : After w6, z.to.cell? ⟨gs, 4, none⟩ = some (.int .u64 (H2 : Nat)) := fun z => (E6.out.1.mono z.old).st.cell (i := 4) rfl
                have s5 : ∀ z : After w6, z.to.cell? ⟨gs, 5, none⟩ = some (.int .u64 (L2 : Nat)) := fun z => (E6.out.1.mono z.old).st.cell (i := 5) rfl
                have s6 : ∀ z : After w6, z.to.cell? ⟨gs, 6, none⟩ = some (.bool ng) := fun z => (E6.out.1.mono z.old).st.cell (i := 6) rfl
                have q2 : ∀ z : After w6, z.to.cell? ⟨g1, 2, none⟩ = some (.int .u64 (h1 : Nat)) := fun z => (E6.out.2.1.mono z.old).cell (i := 2) rfl
                have q3 : ∀ z : After w6, z.to.cell? ⟨g1, 3, none⟩ = some (.int .u64 (l1 : Nat)) := fun z => (E6.out.2.1.mono z.old).cell (i := 3) rfl
                have q4 : ∀ z : After w6, z.to.cell? ⟨g1, 4, none⟩ = some (.int .u64 (h2 : Nat)) := fun z => (E6.out.2.1.mono z.old).cell (i := 4) rfl
                have q5 : ∀ z : After w6, z.to.cell? ⟨g1, 5, none⟩ = some (.int .u64 (l2 : Nat)) := fun z => (E6.out.2.1.mono z.old).cell (i := 5) rfl
                have q6 : ∀ z : After w6, z.to.cell? ⟨g1, 6, none⟩ = some (.bool ng) := fun z => (E6.out.2.1.mono z.old).cell (i := 6) rfl
                have ex : IntKind.i64.wrap (t : Int) = t := by rw [IntKind.wrap_i64]; have := HT.out; omega
                have em : IntKind.i64.wrap ((k : Int) * (t : Int)) = (tk : Nat) := by rw [← Int.natCast_mul, Nat.mul_comm, ← HT.out.1, IntKind.wrap_i64]; have := HT.out; omega
                have te : ((tk : Int) == (tk : Int)) = true := by simp
                have tn : (ng == ng) = true := by simp
                have ne : Nonempty (After w6) := ⟨⟨_, Old.refl _⟩⟩
                refine wp_region_calm (by kernel_rfl) (by kernel_rfl) ?_
                repeat (first | (go_big_quiet_want; (refine quiet_whole 45 (.tmp 12) rfl gk rfl (nums .u32 bt) L0'.out Try.underlying45 rfl (info8 BT.out) ?_); simp only [Act.put, List.setIfInBounds_toArray, List.set_cons_succ, List.set_cons_zero]; go_big_quiet_on) | go_big_quiet_step (first | with_reducible exact calm_of (C0.out _) | with_reducible exact calm_of (F1.out _) | with_reducible exact calm_of (F2.out _) | with_reducible exact calm_of (F3.out _) | with_reducible exact calm_of (F4.out _) | with_reducible exact calm_of (F5.out _) | with_reducible exact calm_of (F6.out _)))
                refine wpQuiet_nil ?_
                rintro _ ⟨⟨w7, o7⟩, rfl⟩
                have O := E6.out.1.old.trans o7
                go_wp2
                go_ret
                exact ⟨by simp, O⟩
  · have t1 : (soundZ lo hi mo es != 0) = true := by simpa using hs
    clear quit
    go_wp2_with fail
    refine (C0.out _).mono ?_
    rintro e w5 ⟨rfl, o5⟩
    have O := B1.out.old.trans o5
    clear B1 o5
    go_wp2
    go_ret
    exact ⟨rfl, O⟩
end Go.Proofs.Ythaaajepolahfaa
