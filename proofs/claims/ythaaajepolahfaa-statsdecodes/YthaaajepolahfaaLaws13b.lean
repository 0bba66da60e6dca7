/-
  The walks of layer 13's statements, if the layer's calls are what they owe: StatsDecodes.
-/
import Derived.Test.YthaaajepolahfaaLaws13
import Derived.Test.YthaaajepolahfaaOpen
namespace Go.Proofs.Ythaaajepolahfaa
open Go.RowKit Pn
set_option linter.unusedVariables false

theorem ref_same_zero2 (a : Option Addr) (cap : Nat) (b : Option Addr) (cb : Nat) (w : World) : Calls Try.prog 11 #[.agg #[.slice a 0 cap, .int .i64 0, .int .u64 0, .int .u64 0, .int .u64 0, .int .u64 0, .bool false], .agg #[.slice b 0 cb, .int .i64 0, .int .u64 0, .int .u64 0, .int .u64 0, .int .u64 0, .bool false]] w fun e w' => e = .returned (.bool true) ∧ Old w w' := by
  have := refSame13_any (s := SV.zero) (t := SV.zero) (a := a) (b := b) (n := 0) (m := 0) (xs := []) (ys := []) cap cb w (by omega) rfl rfl (Rd.nil _) (Rd.nil _)
  rw [decide_eq_true (And.intro rfl rfl)] at this
  exact this

set_option maxHeartbeats 4000000 in
theorem walkK_StatsDecodes (K : StatsK) (v0 v1 : Value) (w : World) (w0 : IsPlan w v0) (w1 : IsNums .u32 4294967296 35184372087808 w v1) :
    Calls Try.prog 4 #[v0, v1] w fun e w' => e = .returned (.bool true) ∧ Old w w' := by
  obtain ⟨lo, hi, mo, a, n, cap, es, rfl, F⟩ := w0
  obtain ⟨b, m, cm, vs, rfl, lv, bl, rv, hm, hmc⟩ := w1
  have V : Vc w b m vs := ⟨lv, by omega, bl, rv⟩
  have B := hide (Bx.start cap F)
  have HV := hide V
  have HF := hide F
  have HE := hide F.len
  have C0 := hide (awake13 K)
  have C1 := hide (fun (wr : World) (h : Fit wr lo hi mo a n es) (h2 : Vc wr b m vs) => K.decode lo hi mo a n cap es b m cm vs wr h h2 hmc)
  clear hmc
  have C2 := hide (fun (wr : World) (h : Fit wr lo hi mo a n es) => refSound10_any cap wr h)
  have C3 := hide (fun (hs : soundZ lo hi mo es = 0) (wr : World) (h : Fit wr lo hi mo a n es) => refLen12_any cap wr h hs)
  have C4 := hide (fun (hs : soundZ lo hi mo es = 0) (wr : World) (h : Fit wr lo hi mo a n es) (h2 : Vc wr b m vs) (hl : m = lenN es (bP lo hi)) => refDecode13_any cap b m cm vs wr h hs h2 hl)
  rw [show bitsN (hi - lo).toNat = bP lo hi from rfl] at C3 C4
  have LB : Hid (m = lenN es (bP lo hi) → (binsV n vs).length = n + 1) := fun h => by
    unfold binsV
    rw [List.length_map, List.length_take, lv, h]
    unfold lenN
    rw [F.len]
    omega
  have NS : Hid (soundZ lo hi mo es = 0 → n ≤ 64) := fun h => by
    have := (sound_of h).2.2
    have := F.len
    unfold bad3 at *
    omega
  unfold pv at C1 C2 C3 C4 ⊢
  clear K F V lv bl rv
  go_enter Try.func4, Try.ntmps4
  go_wp2_with fail
  refine (C1.out _ B.out.fit (HV.out.mono B.out.old)).mono ?_
  rintro e w1 ⟨v, rfl, o1, ok, bad⟩
  have B1 := hide (B.out.mono o1)
  clear B o1 C1
  by_cases hs : soundZ lo hi mo es = 0
  · rw [hs] at C2
    by_cases hl : m = lenN es (bP lo hi)
    · have DE : decE (soundZ lo hi mo es) es (bP lo hi) m vs = if headV n vs then 11 else 0 := by
        unfold decE
        rw [if_neg (by simpa using hs), if_neg (by simpa using hl), HE.out]
      rw [DE] at ok bad ⊢
      have C5 := hide (fun (wr : World) (h : Fit wr lo hi mo a n es) (h2 : Vc wr b m vs) => C4.out hs wr h h2 hl)
      have LN := hide (LB.out hl)
      have N64 := NS.out hs
      have C6 := hide (C3.out hs)
      rw [← hl] at C6
      clear C3 C4 LB NS DE hl
      have tm : ((m : Int) != (m : Int)) = false := by simp
      have tm' : (m != m) = false := by simp
      cases hh : headV n vs with
      | false =>
        obtain ⟨g, cg, rest, rfl, _, RB⟩ := ok (by rw [hh]; rfl)
        rw [hh] at C5
        rw [LN.out]
        obtain ⟨S, hS⟩ : ∃ S, S = SV.of (cnV n vs) (dsum lo n (bP lo hi) vs) (zN (dsq lo n (bP lo hi) vs)) := ⟨_, rfl⟩
        rw [← hS] at C5 ⊢
        clear hS ok bad
        have RB1 := hide (rd_own RB)
        clear RB
        unfold sv
        simp only [Bool.false_eq_true, if_false]
        have D1 : Hid (Ds w w1.heap.size [.int .i64 lo, .int .i64 hi, .int .i64 mo, .slice a n cap] [.slice (some ⟨g, 0, none⟩) (n + 1) cg, .int .i64 S.cnt, .int .u64 (S.sh : Nat), .int .u64 (S.sl : Nat), .int .u64 (S.qh : Nat), .int .u64 (S.ql : Nat), .bool S.neg] (w1.alloc (.cells [.slice (some ⟨g, 0, none⟩) (n + 1) cg, .int .i64 S.cnt, .int .u64 (S.sh : Nat), .int .u64 (S.sl : Nat), .int .u64 (S.qh : Nat), .int .u64 (S.ql : Nat), .bool S.neg].toArray 29))) := ⟨B1.out.row.mono (Old.of_alloc _ _), Row.new _ _ _, B1.out.old.trans (Old.of_alloc _ _)⟩
        have RB2 := hide (RB1.out.mono (Old.of_alloc w1 (.cells [.slice (some ⟨g, 0, none⟩) (n + 1) cg, .int .i64 S.cnt, .int .u64 (S.sh : Nat), .int .u64 (S.sl : Nat), .int .u64 (S.qh : Nat), .int .u64 (S.ql : Nat), .bool S.neg].toArray 29)))
        clear RB1
        have p0 := D1.out.pl.cell (i := 0) rfl
        have p1 := D1.out.pl.cell (i := 1) rfl
        have p2 := D1.out.pl.cell (i := 2) rfl
        have p3 := D1.out.pl.cell (i := 3) rfl
        go_wp2_with fail
        refine (C2.out _ (HF.out.mono D1.out.old)).mono ?_
        rintro e w2 ⟨rfl, o2⟩
        have D2 := hide (D1.out.mono o2)
        have RB3 := hide (RB2.out.mono o2)
        clear RB2
        clear D1 o2 B1 C2 p0 p1 p2 p3
        revert D2
        generalize w1.heap.size = gs
        intro D2
        have p0 := D2.out.pl.cell (i := 0) rfl
        have p1 := D2.out.pl.cell (i := 1) rfl
        have p2 := D2.out.pl.cell (i := 2) rfl
        have p3 := D2.out.pl.cell (i := 3) rfl
        go_wp2_with fail
        refine (C6.out _ (HF.out.mono D2.out.old)).mono ?_
        rintro e w3 ⟨rfl, o3⟩
        have D3 := hide (D2.out.mono o3)
        have RB4 := hide (RB3.out.mono o3)
        clear RB3
        clear D2 o3 C6 p0 p1 p2 p3
        have p0 := D3.out.pl.cell (i := 0) rfl
        have p1 := D3.out.pl.cell (i := 1) rfl
        have p2 := D3.out.pl.cell (i := 2) rfl
        have p3 := D3.out.pl.cell (i := 3) rfl
        go_wp2_with fail
        refine (C5.out _ (HF.out.mono D3.out.old) (HV.out.mono D3.out.old)).mono ?_
        rintro e w4 ⟨v2, rfl, o4, ok2, bad2⟩
        have D4 := hide (D3.out.mono o4)
        have RB5 := hide (RB4.out.mono o4)
        clear RB4
        clear D3 o4 C5 p0 p1 p2 p3
        obtain ⟨g2, cg2, rest2, rfl, _, RC⟩ := ok2 (by simp)
        rw [LN.out]
        clear ok2 bad2
        have RC1 := hide (rd_own RC)
        clear RC
        unfold sv
        simp only [Bool.false_eq_true, if_false]
        have E1 : Hid (Row (w4.alloc (.cells [.slice (some ⟨g2, 0, none⟩) (n + 1) cg2, .int .i64 S.cnt, .int .u64 (S.sh : Nat), .int .u64 (S.sl : Nat), .int .u64 (S.qh : Nat), .int .u64 (S.ql : Nat), .bool S.neg].toArray 29)) w4.heap.size 29 [.slice (some ⟨g2, 0, none⟩) (n + 1) cg2, .int .i64 S.cnt, .int .u64 (S.sh : Nat), .int .u64 (S.sl : Nat), .int .u64 (S.qh : Nat), .int .u64 (S.ql : Nat), .bool S.neg]) := Row.new _ _ _
        have D5 := hide (D4.out.mono (Old.of_alloc w4 (.cells [.slice (some ⟨g2, 0, none⟩) (n + 1) cg2, .int .i64 S.cnt, .int .u64 (S.sh : Nat), .int .u64 (S.sl : Nat), .int .u64 (S.qh : Nat), .int .u64 (S.ql : Nat), .bool S.neg].toArray 29)))
        have RB6 := hide (RB5.out.mono (Old.of_alloc w4 (.cells [.slice (some ⟨g2, 0, none⟩) (n + 1) cg2, .int .i64 S.cnt, .int .u64 (S.sh : Nat), .int .u64 (S.sl : Nat), .int .u64 (S.qh : Nat), .int .u64 (S.ql : Nat), .bool S.neg].toArray 29)))
        clear RB5
        have RC2 := hide (RC1.out.mono (Old.of_alloc w4 (.cells [.slice (some ⟨g2, 0, none⟩) (n + 1) cg2, .int .i64 S.cnt, .int .u64 (S.sh : Nat), .int .u64 (S.sl : Nat), .int .u64 (S.qh : Nat), .int .u64 (S.ql : Nat), .bool S.neg].toArray 29)))
        go_wp2_with fail
        refine (C0.out _).mono ?_
        rintro e w5 ⟨rfl, o5⟩
        have D6 := hide (D5.out.mono o5)
        have E2 := hide (E1.out.mono o5)
        have RB7 := hide (RB6.out.mono o5)
        clear RB6
        have RC3 := hide (RC2.out.mono o5)
        clear D4 D5 E1 o5 C0
        revert E2
        generalize w4.heap.size = gt
        intro E2
        have s0 := D6.out.st.cell (i := 0) rfl
        have s1 := D6.out.st.cell (i := 1) rfl
        have s2 := D6.out.st.cell (i := 2) rfl
        have s3 := D6.out.st.cell (i := 3) rfl
        have s4 := D6.out.st.cell (i := 4) rfl
        have s5 := D6.out.st.cell (i := 5) rfl
        have s6 := D6.out.st.cell (i := 6) rfl
        have t0 := E2.out.cell (i := 0) rfl
        have t1 := E2.out.cell (i := 1) rfl
        have t2 := E2.out.cell (i := 2) rfl
        have t3 := E2.out.cell (i := 3) rfl
        have t4 := E2.out.cell (i := 4) rfl
        have t5 := E2.out.cell (i := 5) rfl
        have t6 := E2.out.cell (i := 6) rfl
        have C7 := hide (ref_same_self (s := S) (xs := binsV n vs) cg cg2 w5 (by omega) LN.out RB7.out RC3.out)
        unfold sv at C7
        go_wp2_with fail
        refine C7.out.mono ?_
        rintro e w6 ⟨rfl, o6⟩
        have O := D6.out.old.trans o6
        clear D6 E2 o6 s0 s1 s2 s3 s4 s5 s6 t0 t1 t2 t3 t4 t5 t6
        go_wp2
        go_ret
        exact ⟨rfl, O⟩
      | true =>
        obtain ⟨a0, c0, rfl⟩ := bad (by rw [hh]; decide)
        rw [hh] at C5
        unfold sv SV.zero
        simp only [if_true]
        clear ok bad
        have D1 : Hid (Ds w w1.heap.size [.int .i64 lo, .int .i64 hi, .int .i64 mo, .slice a n cap] [.slice a0 0 c0, .int .i64 0, .int .u64 0, .int .u64 0, .int .u64 0, .int .u64 0, .bool false] (w1.alloc (.cells [.slice a0 0 c0, .int .i64 0, .int .u64 0, .int .u64 0, .int .u64 0, .int .u64 0, .bool false].toArray 29))) := ⟨B1.out.row.mono (Old.of_alloc _ _), Row.new _ _ _, B1.out.old.trans (Old.of_alloc _ _)⟩
        have p0 := D1.out.pl.cell (i := 0) rfl
        have p1 := D1.out.pl.cell (i := 1) rfl
        have p2 := D1.out.pl.cell (i := 2) rfl
        have p3 := D1.out.pl.cell (i := 3) rfl
        go_wp2_with fail
        refine (C2.out _ (HF.out.mono D1.out.old)).mono ?_
        rintro e w2 ⟨rfl, o2⟩
        have D2 := hide (D1.out.mono o2)
        clear D1 o2 B1 C2 p0 p1 p2 p3
        revert D2
        generalize w1.heap.size = gs
        intro D2
        have p0 := D2.out.pl.cell (i := 0) rfl
        have p1 := D2.out.pl.cell (i := 1) rfl
        have p2 := D2.out.pl.cell (i := 2) rfl
        have p3 := D2.out.pl.cell (i := 3) rfl
        go_wp2_with fail
        refine (C6.out _ (HF.out.mono D2.out.old)).mono ?_
        rintro e w3 ⟨rfl, o3⟩
        have D3 := hide (D2.out.mono o3)
        clear D2 o3 C6 p0 p1 p2 p3
        have p0 := D3.out.pl.cell (i := 0) rfl
        have p1 := D3.out.pl.cell (i := 1) rfl
        have p2 := D3.out.pl.cell (i := 2) rfl
        have p3 := D3.out.pl.cell (i := 3) rfl
        go_wp2_with fail
        refine (C5.out _ (HF.out.mono D3.out.old) (HV.out.mono D3.out.old)).mono ?_
        rintro e w4 ⟨v2, rfl, o4, ok2, bad2⟩
        have D4 := hide (D3.out.mono o4)
        clear D3 o4 C5 p0 p1 p2 p3
        have hz := bad2 (by simp)
        obtain ⟨a1, c1, rfl⟩ := hz
        unfold sv SV.zero
        simp only [if_true]
        clear ok2 bad2
        have E1 : Hid (Row (w4.alloc (.cells [.slice a1 0 c1, .int .i64 0, .int .u64 0, .int .u64 0, .int .u64 0, .int .u64 0, .bool false].toArray 29)) w4.heap.size 29 [.slice a1 0 c1, .int .i64 0, .int .u64 0, .int .u64 0, .int .u64 0, .int .u64 0, .bool false]) := Row.new _ _ _
        have D5 := hide (D4.out.mono (Old.of_alloc w4 (.cells [.slice a1 0 c1, .int .i64 0, .int .u64 0, .int .u64 0, .int .u64 0, .int .u64 0, .bool false].toArray 29)))
        go_wp2_with fail
        refine (C0.out _).mono ?_
        rintro e w5 ⟨rfl, o5⟩
        have D6 := hide (D5.out.mono o5)
        have E2 := hide (E1.out.mono o5)
        clear D4 D5 E1 o5 C0
        revert E2
        generalize w4.heap.size = gt
        intro E2
        have s0 := D6.out.st.cell (i := 0) rfl
        have s1 := D6.out.st.cell (i := 1) rfl
        have s2 := D6.out.st.cell (i := 2) rfl
        have s3 := D6.out.st.cell (i := 3) rfl
        have s4 := D6.out.st.cell (i := 4) rfl
        have s5 := D6.out.st.cell (i := 5) rfl
        have s6 := D6.out.st.cell (i := 6) rfl
        have t0 := E2.out.cell (i := 0) rfl
        have t1 := E2.out.cell (i := 1) rfl
        have t2 := E2.out.cell (i := 2) rfl
        have t3 := E2.out.cell (i := 3) rfl
        have t4 := E2.out.cell (i := 4) rfl
        have t5 := E2.out.cell (i := 5) rfl
        have t6 := E2.out.cell (i := 6) rfl
        have C7 := hide (fun wr : World => ref_same_zero2 a0 c0 a1 c1 wr)
        go_wp2_with fail
        refine (C7.out _).mono ?_
        rintro e w6 ⟨rfl, o6⟩
        have O := D6.out.old.trans o6
        clear D6 E2 o6 s0 s1 s2 s3 s4 s5 s6 t0 t1 t2 t3 t4 t5 t6
        go_wp2
        go_ret
        exact ⟨rfl, O⟩
    · have DE : decE (soundZ lo hi mo es) es (bP lo hi) m vs = 1 := by
        unfold decE
        rw [if_neg (by simpa using hs), if_pos hl]
      rw [DE] at ok bad ⊢
      have C6 := hide (C3.out hs)
      obtain ⟨lm, hlm⟩ : ∃ lm, lm = lenN es (bP lo hi) := ⟨_, rfl⟩
      rw [← hlm] at C6
      have tm : ((m : Int) != (lm : Int)) = true := by rw [hlm]; simp; omega
      have tm' : (m != lm) = true := by rw [hlm]; simpa using hl
      obtain ⟨a0, c0, rfl⟩ := bad (by decide)
      unfold sv SV.zero
      simp only
      clear ok bad DE hl hlm C3 C4 LB NS
      have D1 : Hid (Ds w w1.heap.size [.int .i64 lo, .int .i64 hi, .int .i64 mo, .slice a n cap] [.slice a0 0 c0, .int .i64 0, .int .u64 0, .int .u64 0, .int .u64 0, .int .u64 0, .bool false] (w1.alloc (.cells [.slice a0 0 c0, .int .i64 0, .int .u64 0, .int .u64 0, .int .u64 0, .int .u64 0, .bool false].toArray 29))) := ⟨B1.out.row.mono (Old.of_alloc _ _), Row.new _ _ _, B1.out.old.trans (Old.of_alloc _ _)⟩
      have p0 := D1.out.pl.cell (i := 0) rfl
      have p1 := D1.out.pl.cell (i := 1) rfl
      have p2 := D1.out.pl.cell (i := 2) rfl
      have p3 := D1.out.pl.cell (i := 3) rfl
      go_wp2_with fail
      refine (C2.out _ (HF.out.mono D1.out.old)).mono ?_
      rintro e w2 ⟨rfl, o2⟩
      have D2 := hide (D1.out.mono o2)
      clear D1 o2 B1 C2 p0 p1 p2 p3
      revert D2
      generalize w1.heap.size = gs
      intro D2

      have p0 := D2.out.pl.cell (i := 0) rfl
      have p1 := D2.out.pl.cell (i := 1) rfl
      have p2 := D2.out.pl.cell (i := 2) rfl
      have p3 := D2.out.pl.cell (i := 3) rfl
      go_wp2_with fail
      refine (C6.out _ (HF.out.mono D2.out.old)).mono ?_
      rintro e w3 ⟨rfl, o3⟩
      have D3 := hide (D2.out.mono o3)
      clear D2 o3 C6 p0 p1 p2 p3

      go_wp2_with fail
      refine (C0.out _).mono ?_
      rintro e w4 ⟨rfl, o4⟩
      have D4 := hide (D3.out.mono o4)
      clear D3 o4 C0
      have s0 := D4.out.st.cell (i := 0) rfl
      have s1 := D4.out.st.cell (i := 1) rfl
      have s2 := D4.out.st.cell (i := 2) rfl
      have s3 := D4.out.st.cell (i := 3) rfl
      have s4 := D4.out.st.cell (i := 4) rfl
      have s5 := D4.out.st.cell (i := 5) rfl
      have s6 := D4.out.st.cell (i := 6) rfl
      have C7 := hide (ref_same_zero a0 c0)
      go_wp2_with fail
      refine (C7.out _).mono ?_
      rintro e w5 ⟨rfl, o5⟩
      have O := D4.out.old.trans o5
      clear D4 o5 s0 s1 s2 s3 s4 s5 s6
      go_wp2
      go_ret
      exact ⟨rfl, O⟩
  · have DE : decE (soundZ lo hi mo es) es (bP lo hi) m vs = soundZ lo hi mo es := by
      unfold decE
      rw [if_pos hs]
    rw [DE] at ok bad ⊢
    obtain ⟨a0, c0, rfl⟩ := bad hs
    unfold sv SV.zero
    simp only
    clear ok bad DE C3 C4 LB NS
    revert C2
    generalize soundZ lo hi mo es = s at hs
    intro C2
    have t1 : (s == 0) = false := by simpa using hs
    have t2 : (s != 0) = true := by simpa using hs
    clear hs
    have D1 : Hid (Ds w w1.heap.size [.int .i64 lo, .int .i64 hi, .int .i64 mo, .slice a n cap] [.slice a0 0 c0, .int .i64 0, .int .u64 0, .int .u64 0, .int .u64 0, .int .u64 0, .bool false] (w1.alloc (.cells [.slice a0 0 c0, .int .i64 0, .int .u64 0, .int .u64 0, .int .u64 0, .int .u64 0, .bool false].toArray 29))) := ⟨B1.out.row.mono (Old.of_alloc _ _), Row.new _ _ _, B1.out.old.trans (Old.of_alloc _ _)⟩
    have p0 := D1.out.pl.cell (i := 0) rfl
    have p1 := D1.out.pl.cell (i := 1) rfl
    have p2 := D1.out.pl.cell (i := 2) rfl
    have p3 := D1.out.pl.cell (i := 3) rfl
    go_wp2_with fail
    refine (C2.out _ (HF.out.mono D1.out.old)).mono ?_
    rintro e w2 ⟨rfl, o2⟩
    have D2 := hide (D1.out.mono o2)
    clear D1 o2 B1 C2 p0 p1 p2 p3
    revert D2
    generalize w1.heap.size = gs
    intro D2

    go_wp2_with fail
    refine (C0.out _).mono ?_
    rintro e w4 ⟨rfl, o4⟩
    have D4 := hide (D2.out.mono o4)
    clear D2 o4 C0
    have s0 := D4.out.st.cell (i := 0) rfl
    have s1 := D4.out.st.cell (i := 1) rfl
    have s2 := D4.out.st.cell (i := 2) rfl
    have s3 := D4.out.st.cell (i := 3) rfl
    have s4 := D4.out.st.cell (i := 4) rfl
    have s5 := D4.out.st.cell (i := 5) rfl
    have s6 := D4.out.st.cell (i := 6) rfl
    have C7 := hide (ref_same_zero a0 c0)
    go_wp2_with fail
    refine (C7.out _).mono ?_
    rintro e w5 ⟨rfl, o5⟩
    have O := D4.out.old.trans o5
    clear D4 o5 s0 s1 s2 s3 s4 s5 s6
    go_wp2
    go_ret
    exact ⟨rfl, O⟩
end Go.Proofs.Ythaaajepolahfaa
