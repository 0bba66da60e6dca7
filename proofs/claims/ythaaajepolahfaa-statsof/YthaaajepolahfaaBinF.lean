/-
  Layer 11 as it landed: what bin's Find answers, for any plan; samples being counted. A bin is found by sort.Search over the edges.
-/
import Derived.Test.YthaaajepolahfaaFindO
import Derived.Test.YthaaajepolahfaaWhole
import Derived.Test.YthaaajepolahfaaElem
import Derived.Test.YthaaajepolahfaaClampE
namespace Go.Proofs.Ythaaajepolahfaa
open Go.RowKit Pn
set_option linter.unusedVariables false

namespace Pn
theorem ris_le {es : List Int} (h : risTo es es.length) : ∀ {i j : Nat}, i ≤ j → j < es.length → es.getD i 0 ≤ es.getD j 0 := by
  intro i j
  induction j with
  | zero => intro h1 _; obtain rfl : i = 0 := by omega
            exact Int.le_refl _
  | succ j ih =>
    intro h1 h2
    by_cases e : i = j + 1
    · subst e; exact Int.le_refl _
    · have h3 := ih (by omega) (by omega)
      have h4 := h j (by omega)
      omega
/-- A place whose edge is above c lies at or behind the bin; one whose edge is not lies ahead of it. -/
theorem bin_hi {es : List Int} {c : Int} {k : Nat} (h : c < es.getD k 0) : binN es c ≤ k := by
  apply Nat.le_of_not_lt
  intro h'
  have := binN_below es c k h'
  omega
theorem bin_lo {es : List Int} {c : Int} {k : Nat} (hr : risTo es es.length) (hk : k < es.length) (h : ¬ c < es.getD k 0) : k + 1 ≤ binN es c := by
  apply Nat.le_of_not_lt
  intro h'
  have h1 := binN_above es c (by omega)
  have h2 := ris_le hr (i := binN es c) (j := k) (by omega) hk
  omega
end Pn

/-- What the closure has: a box with the edges, a box with the sample. -/
structure Nb (B C : Nat) (a : Option Addr) (n cap : Nat) (es : List Int) (c : Int) (wr : World) : Prop where
  ed : Row wr B 22 [.slice a n cap]
  sa : Row wr C 3 [.int .i64 c]
  rd : Rd wr a (ints es)
  len : es.length = n
theorem Nb.mono {B C : Nat} {a : Option Addr} {n cap : Nat} {es : List Int} {c : Int} {wr w' : World} (h : Nb B C a n cap es c wr) (o : Old wr w') : Nb B C a n cap es c w' := ⟨h.ed.mono o, h.sa.mono o, h.rd.mono o, h.len⟩

theorem above_any {B C : Nat} {a : Option Addr} {n cap : Nat} {es : List Int} {c : Int} (k : Nat) (hk : k < n) (w : World) (N : Nb B C a n cap es c w) :
    Calls Try.prog 58 #[.int .i64 (k : Int), .pointer (some ⟨B, 0, none⟩), .pointer (some ⟨C, 0, none⟩)] w fun e w' => e = .returned (.bool (decide (c < es.getD k 0))) ∧ Old w w' := by
  obtain ⟨b, off, rfl, hc⟩ := rd_int N.rd (i := k) (by rw [N.len]; exact hk)
  have c0 := N.ed.cell (i := 0) rfl
  have c1 := N.sa.cell (i := 0) rfl
  have h0 : (0 : Int) ≤ k := by omega
  have h1 : (k : Int) < n := by omega
  clear N
  revert hc
  generalize es.getD k 0 = x
  intro hc
  obtain ⟨t, ht⟩ : ∃ t : Bool, decide (c < x) = t := ⟨_, rfl⟩
  go_enter Try.func58, Try.ntmps58
  go_wp2_with fail
  go_quiet (fail)
  go_wp2
  go_ret
  rw [ht]
  exact ⟨rfl, Old.of_drewN _ _⟩

set_option maxHeartbeats 2000000 in
theorem search_any {B C : Nat} {a : Option Addr} {n cap : Nat} {es : List Int} {c : Int} (hn : n ≤ 64) (hr : risTo es es.length) (w : World) (N : Nb B C a n cap es c w) :
    Calls Try.prog 57 #[.int .i64 (n : Int), .func (.func 58) #[] #[.pointer (some ⟨B, 0, none⟩), .pointer (some ⟨C, 0, none⟩)]] w fun e w' => e = .returned (.int .i64 ((binN es c : Nat) : Int)) ∧ Old w w' := by
  have L := hide N.len
  have HI := hide (fun k => @bin_hi es c k)
  have LO := hide (fun k => @bin_lo es c k hr)
  have AB := hide (fun k hk w N => above_any (B := B) (C := C) (a := a) (n := n) (cap := cap) (es := es) (c := c) k hk w N)
  have BL := hide (binN_le es c)
  have N0 := hide N
  clear N hr
  go_enter Try.func57, Try.ntmps57
  go_wp2_with fail
  go_loopw [5, 6] (fun vi vj wr => ∃ i j : Nat, vi = .int .i64 (i : Int) ∧ vj = .int .i64 (j : Int) ∧ i ≤ j ∧ j ≤ n ∧ Hid (i ≤ binN es c ∧ binN es c ≤ j) ∧ Hid (Nb B C a n cap es c wr) ∧ Old w wr) (fun vi vj _ => (intOf vj).toNat - (intOf vi).toNat)
  case atStart => exact ⟨0, n, rfl, rfl, Nat.zero_le _, Nat.le_refl _, ⟨Nat.zero_le _, by rw [← L.out]; exact BL.out⟩, N0, Old.refl _⟩
  case round =>
    clear N0 BL
    obtain ⟨i, j, rfl, rfl, hij, hjn, BB, N1, hol⟩ := hrel
    by_cases hlt : i < j
    · obtain ⟨h, hh⟩ : ∃ h : Nat, (i + j) / 2 = h := ⟨_, rfl⟩
      have hH := hide (show ((i : Int) + (j : Int)) / 2 = (h : Int) by omega)
      have e1 : (i : Int) < j := by omega
      have b1 : i ≤ h := by omega
      have b2 : h < j := by omega
      clear hh
      go_wp2_with fail
      rw [hH.out]
      clear hH
      refine (AB.out h (by omega) _ N1.out).mono ?_
      rintro e w1 ⟨rfl, o1⟩
      have N2 := hide (N1.out.mono o1)
      have O2 := hol.trans o1
      by_cases ht : c < es.getD h 0
      · have hd : decide (c < es.getD h 0) = true := decide_eq_true ht
        have BH := hide (HI.out h ht)
        rw [hd]
        clear hd ht
        go_wp2
        go_roundw
        case rel => exact ⟨i, h, rfl, rfl, b1, by omega, ⟨BB.out.1, BH.out⟩, N2, O2⟩
        case measure => simp [intOf]; omega
      · have hd : decide (c < es.getD h 0) = false := decide_eq_false ht
        have BH := hide (LO.out h (by rw [L.out]; omega) (by omega))
        rw [hd]
        clear hd ht
        go_wp2
        go_roundw
        case rel => exact ⟨h + 1, j, by go_num, rfl, by omega, hjn, ⟨BH.out, BB.out.2⟩, N2, O2⟩
        case measure => simp [intOf]; omega
    · obtain rfl : i = j := by omega
      have hd : decide ((i : Int) < i) = false := decide_eq_false (by omega)
      go_wp2
      go_ret
      obtain ⟨p, q⟩ := BB.out
      obtain rfl : i = binN es c := by omega
      exact ⟨rfl, hol⟩

theorem notAbove_any {a : Option Addr} {n cap : Nat} {es : List Int} {c : Int} (hn : n ≤ 64) (hr : risTo es es.length) (hl : es.length = n) (w : World) (R : Rd w a (ints es)) :
    Calls Try.prog 40 #[.slice a n cap, .int .i64 c] w fun e w' => e = .returned (.int .i64 ((binN es c : Nat) : Int)) ∧ Old w w' := by
  have N0 : Nb w.heap.size (w.heap.size + 1) a n cap es c ((w.alloc (.cells #[.slice a n cap] 22)).alloc (.cells #[.int .i64 c] 3)) := by
    refine ⟨(Row.new _ _ _).mono (Old.of_alloc _ _), ?_, R.mono ((Old.of_alloc _ _).alloc _), hl⟩
    have := Row.new (w.alloc (.cells #[.slice a n cap] 22)) 3 [.int .i64 c]
    rw [World.size_alloc] at this
    exact this
  have O := (Old.of_alloc w (.cells #[.slice a n cap] 22)).alloc (.cells #[.int .i64 c] 3)
  have S := hide (search_any hn hr _ N0)
  have hmf : ∀ (fn : Fn) (first cap : Array Value) (w : World), (Instr.makeFunc fn first cap).run Try.prog w = .ok (.func fn first cap) w := fun _ _ _ _ => rfl
  clear N0 R hl hr hn
  go_enter Try.func40, Try.ntmps40
  go_wp2_with fail
  refine S.out.mono ?_
  rintro e w1 ⟨rfl, o1⟩
  go_wp2
  go_ret
  exact ⟨rfl, O.trans o1⟩
theorem ris_of {lo hi mo : Int} {es : List Int} (h : soundZ lo hi mo es = 0) : es.length ≤ 64 ∧ risTo es es.length ∧ mo ≤ 65536 := by
  obtain ⟨_, h2, h3⟩ := sound_of h
  unfold bad3 at h3
  unfold bad2 at h2
  by_cases h4 : risTo es es.length
  · exact ⟨by omega, h4, by omega⟩
  · exact absurd (Or.inr h4) h3

set_option maxHeartbeats 1000000 in
theorem find11 : FindC11 := by
  intro lo hi mo x a n cap es w hx F
  have B0 := hide (Bx.start cap F)
  have X := hide (fun w F => clamp10 lo hi mo x a n cap es w hx F)
  have L := hide F.len
  have RI := hide (@ris_of lo hi mo es)
  unfold pv at *
  clear F hx
  revert X RI
  generalize soundZ lo hi mo es = s
  intro X RI
  go_enter Try.func23, Try.ntmps23
  have c0 := B0.out.c0
  have c1 := B0.out.c1
  have c2 := B0.out.c2
  have c3 := B0.out.c3
  go_wp2_with fail
  refine (X.out _ B0.out.fit).mono ?_
  rintro e w1 ⟨rfl, o1⟩
  have B1 := hide (B0.out.mono o1)
  clear B0 o1 X c0 c1 c2 c3
  by_cases hs : s = 0
  · subst hs
    have E : clampS 0 lo hi x = clampZ lo hi x := by unfold clampS; rw [if_pos rfl]
    have E2 := hide (show binS 0 lo hi es x = ((binN es (clampZ lo hi x) : Nat) : Int) by unfold binS; rw [if_pos rfl]; rfl)
    rw [E]
    clear E
    revert E2
    generalize clampZ lo hi x = c
    intro E2
    have Y := hide (fun w R => notAbove_any (a := a) (cap := cap) (c := c) (show n ≤ 64 by rw [← L.out]; exact (RI.out rfl).1) (RI.out rfl).2.1 L.out w R)
    have c3 := B1.out.c3
    go_wp2_with fail
    refine (Y.out _ B1.out.fit.rd).mono ?_
    rintro e w2 ⟨rfl, o2⟩
    have O := B1.out.old.trans o2
    clear B1 o2 c3 Y
    go_wp2
    go_ret2
    exact ⟨by rw [E2.out]; rfl, O⟩
  · have E : binS s lo hi es x = 0 := by unfold binS; rw [if_neg hs]
    have E := hide E
    have t : (s != 0) = true := by simpa using hs
    have O := B1.out.old
    generalize clampS s lo hi x = z
    clear B1 hs
    go_wp2
    go_ret2
    exact ⟨by rw [E.out]; rfl, O⟩

/-- What lies in the world while samples are counted: the plan in its box, the samples, the counts. -/
structure Cb (w : World) (lo hi mo : Int) (a : Option Addr) (n cap : Nat) (es : List Int) (b : Option Addr) (k : Nat) (xs : List Int) (gw : Nat) (cs : List Int) (wr : World) : Prop where
  bx : Bx w w.heap.size lo hi mo a n cap es wr
  sam : Sam wr b k xs
  row : Row wr gw 3 (ints cs)
  gl : w.heap.size < gw
  fa : ∀ x, 0 < (ints es).length → a = some x → x.block ≠ gw
  fb : ∀ x, 0 < (ints xs).length → b = some x → x.block ≠ gw
section
variable {w : World} {lo hi mo : Int} {a : Option Addr} {n cap : Nat} {es : List Int} {b : Option Addr} {k : Nat} {xs : List Int} {gw : Nat} {cs : List Int} {wr w' : World}
theorem Cb.mono (h : Cb w lo hi mo a n cap es b k xs gw cs wr) (o : Old wr w') : Cb w lo hi mo a n cap es b k xs gw cs w' :=
  ⟨h.bx.mono o, h.sam.mono o, h.row.mono o, h.gl, h.fa, h.fb⟩
theorem Cb.put (h : Cb w lo hi mo a n cap es b k xs gw cs wr) (p : Nat) (z : Int) : Cb w lo hi mo a n cap es b k xs gw (cs.set p z) (wr.setCell ⟨gw, p, none⟩ (.int .i64 z)) := by
  have gr : wr.grownBy (wr.setCell ⟨gw, p, none⟩ (.int .i64 z)) (some gw) := grown_set _ _ _ _
  have gl := h.gl
  refine ⟨⟨h.bx.row.grown gr (by omega), ⟨h.bx.fit.lo, h.bx.fit.hi, h.bx.fit.mo, h.bx.fit.len, h.bx.fit.small, h.bx.fit.each, h.bx.fit.rd.grown gr h.fa⟩, h.bx.old.grown gr (by omega)⟩,
    ⟨h.sam.len, h.sam.small, h.sam.each, h.sam.rd.grown gr h.fb⟩, ?_, h.gl, h.fa, h.fb⟩
  rw [← ints_set]
  exact h.row.set p _
end
end Go.Proofs.Ythaaajepolahfaa
