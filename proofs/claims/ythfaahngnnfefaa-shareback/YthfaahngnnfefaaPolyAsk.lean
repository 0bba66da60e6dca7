/-
  poly.asker, poly.anyTwice, poly.allInRange, poly.fault: whether points may be; places that stand twice are found by a closure that remembers what it was asked for.
-/
import Derived.Test.YthfaahngnnfefaaPolyC
import Derived.Maps.OwnOps
import Derived.Maps.Views
namespace Go.Proofs.Ythfaahngnnfefaa
open Go.RowKit Go.Maps
set_option linter.unusedVariables false

/-- How often a place stands among the first points. -/
def seen (ps : List Pt) (z : Int) : Nat → Nat
  | 0 => 0
  | i + 1 => if z = at1 ps i then seen ps z i + 1 else seen ps z i
theorem seen_le (ps : List Pt) (z : Int) : ∀ i, seen ps z i ≤ i
  | 0 => Nat.le_refl _
  | i + 1 => by
    have := seen_le ps z i
    rw [seen]; split <;> omega
theorem seen_twice (ps : List Pt) (i : Nat) : ∀ k, decide (0 < seen ps (at1 ps i) k) = twice ps i k
  | 0 => by simp [seen, twice]
  | k + 1 => by
    have ih := seen_twice ps i k
    rw [seen, twice, ← ih]
    by_cases h : at1 ps i = at1 ps k
    · rw [if_pos h]; simp [h]
    · rw [if_neg h]; simp [h]

/-- What the closure remembers: block B is the map, block C holds it; each place was asked for so often. -/
structure Book (w : World) (B C n : Nat) (c : Int → Nat) : Prop where
  ne : B ≠ C
  cell : Row w C 73 [.map (some B)]
  map : ∃ D : DataW Unit, w.ownsMap Try.prog 3 (plainElem Try.prog 3) B n D ∧ IsMap D ∧ ∀ z : Int, D.atKey (.int .i64 z) (.lit (.int .i64 0)) = .lit (.int .i64 (c z : Nat))
  le : ∀ z, c z ≤ n
theorem Book.mono {w w' : World} {B C n : Nat} {c : Int → Nat} (h : Book w B C n c) (o : Old w w') : Book w' B C n c := by
  obtain ⟨h1, h2, ⟨D, h3, h4⟩, h5⟩ := h
  exact ⟨h1, h2.mono o, ⟨D, h3.kept (grown_old o none) (by simp), h4⟩, h5⟩

theorem keyed : Keyed Try.prog 3 := int_keyed Try.underlying3
theorem zeroInt (w : World) : (zeroValue 3).run Try.prog w = .ok (.int .i64 0) w := by kernel_rfl

theorem keyLit {z : Int} : WideAt.IsKeyLit (.int .i64 z) := by trivial

set_option maxHeartbeats 2000000 in
theorem asker_any (w : World) :
    Calls Try.prog 51 #[] w fun e w' => ∃ B C, e = .returned (.func (.func 54) #[] #[.pointer (some ⟨C, 0, none⟩)]) ∧ w.heap.size ≤ B ∧ w.heap.size ≤ C ∧ Book w' B C 0 (fun _ => 0) ∧ Old w w' := by
  have hmm := @run_makeMap Try.prog
  have hmf : ∀ (fn : Fn) (first cap : Array Value) (w : World), (Instr.makeFunc fn first cap).run Try.prog w = .ok (.func fn first cap) w := fun _ _ _ _ => rfl
  go_enter Try.func51, Try.ntmps51
  go_wp2
  go_ret
  refine ⟨w.heap.size, w.heap.size + 1, rfl, Nat.le_refl _, Nat.le_succ _, ⟨by omega, ?_, ⟨.map [], ?_, isMap_empty, fun z => rfl⟩, fun _ => Nat.le_refl _⟩, (Old.of_alloc _ _).alloc _⟩
  · have := Row.new (w.alloc (.map #[] 0)) 73 [.map (some w.heap.size)]
    rw [show (w.alloc (.map #[] 0)).heap.size = w.heap.size + 1 by simp] at this
    exact this
  · exact (World.ownsMap_made _ _ _ _).alloc _

set_option maxHeartbeats 2000000 in
theorem asked_any (z : Int) (hz : -9223372036854775808 ≤ z ∧ z ≤ 9223372036854775807) (w : World) (B C n : Nat) (hn : n ≤ 1048576) (c : Int → Nat) (b : Book w B C n c) :
    Calls Try.prog 54 #[.int .i64 z, .pointer (some ⟨C, 0, none⟩)] w fun e w' => e = .returned (.bool (decide (0 < c z))) ∧ Book w' B C (n + 1) (fun y => if y = z then c y + 1 else c y) ∧ w.grownBy w' (some B) := by
  obtain ⟨hne, hcell, ⟨D, hown, hm, hD⟩, hle⟩ := b
  have cC := hcell.cell (i := 0) rfl
  have hkey : keyOf Try.prog 3 (.int .i64 z) = some (.int .i64 z) := keyOf_int_mk Try.underlying3 (WalkArith.wf_i64 (by omega))
  have HD := hide hD
  have HC := hide hcell
  have HM := hide hm
  have LE := hide hle
  have lz := hle z
  clear hD hcell hm hle
  obtain ⟨k, hk⟩ : ∃ k, k = c z := ⟨_, rfl⟩
  rw [← hk] at lz ⊢
  have HK := hide hk
  clear hk
  go_enter Try.func54, Try.ntmps54
  go_wp2_with (first
    | (at_lookup; refine wpList_lookup_own_int _ rfl _ _ 73 rfl 3 3 .i64 keyed Try.underlying73 Try.underlying3 (zeroInt _) B n _ rfl hown _ _ rfl hkey ?_; intro c1 hat hwc; obtain rfl : c1 = (k : Int) := (by have := hat.symm.trans (HD.out z); rw [← HK.out] at this; simpa using this); clear hat hwc)
    | (at_lookup; refine wpList_lookup_own_int _ rfl _ _ 73 rfl 3 3 .i64 keyed Try.underlying73 Try.underlying3 (zeroInt _) B (n + 1) _ rfl hown1 _ _ rfl hkey ?_; intro c2 hat hwc; obtain rfl : c2 = (k : Int) + 1 := (by have := hat.symm.trans (atKey_put_same HM.out keyLit _ _); simpa using this); clear hat hwc)
    | (at_mapUpdate; refine wpList_mapUpdate_own _ rfl _ _ _ 73 rfl 3 3 keyed Try.underlying73 _ B n _ rfl hown (by unfold maxLen; omega) _ _ _ rfl rfl hkey _ [] (plainElem_int Try.underlying3 (WalkArith.wf_i64 (by omega))) ?_; intro w1 hown1 hgrow1; have cC1 := (hgrow1.cell cC (by simpa using Ne.symm hne)); have HC1 := hide (HC.out.grown hgrow1 (Ne.symm hne)))
    | go_in)
  go_ret
  refine ⟨?_, ⟨hne, HC1.out, ⟨_, hown1, HM.out.put _ _, fun y => ?_⟩, fun y => ?_⟩, hgrow1⟩
  · have : decide ((1 : Int) < (k : Int) + 1) = decide (0 < k) := by rw [decide_eq_decide]; omega
    exact congrArg (fun b => Ending.returned (.bool b)) this
  · by_cases hy : y = z
    · subst hy
      rw [atKey_put_same HM.out keyLit, if_pos rfl, ← HK.out]
      rfl
    · rw [atKey_put_other (by intro e; exact hy (by simpa using e)), if_neg hy]
      exact HD.out y
  · have := LE.out y
    show (if y = z then c y + 1 else c y) ≤ n + 1
    split <;> omega

theorem anyWide_le {ps : List Pt} : ∀ {k m : Nat}, k ≤ m → anyWide ps k = true → anyWide ps m = true
  | k, 0, h, ht => by
    obtain rfl : k = 0 := by omega
    exact ht
  | k, m + 1, h, ht => by
    by_cases e : k = m + 1
    · rw [← e]; exact ht
    · rw [anyWide, anyWide_le (show k ≤ m by omega) ht]; rfl

/-- Points, each within its type's bounds. -/
theorem PtsOf.at {w : World} {a : Option Addr} {n cap : Nat} {ps : List Pt} (h : PtsOf w a n cap ps) {i : Nat} (hi : i < n) :
    ∃ b off z v, a = some ⟨b, off, none⟩ ∧ Hid (at1 ps i = z ∧ at2 ps i = v) ∧ w.cell? ⟨b, off + i * 2, none⟩ = some (.int .i64 z) ∧ w.cell? ⟨b, off + i * 2 + 1, none⟩ = some (.int .u64 (v : Nat)) ∧ (-9223372036854775808 ≤ z ∧ z ≤ 9223372036854775807) ∧ v < 18446744073709551616 := by
  obtain ⟨hl, hc, hb, rd⟩ := h
  obtain ⟨b, off, z, v, ha, Hp, h1, h2⟩ := rd.at (i := i) (by omega)
  have := hb _ (List.mem_of_getElem? Hp.out)
  exact ⟨b, off, z, v, ha, at_of Hp.out, h1, h2, ⟨this.1, this.2.1⟩, this.2.2⟩

set_option maxHeartbeats 2000000 in
theorem anyTwice_any (ps : List Pt) (n : Nat) (a : Option Addr) (cap : Nat) (w : World) (hp : PtsOf w a n cap ps) (hn : n ≤ 64) :
    Calls Try.prog 42 #[.slice a n cap] w fun e w' => e = .returned (.bool (anyTwice ps n)) ∧ Old w w' := by
  have HP := hide hp
  clear hp
  go_enter Try.func42, Try.ntmps42
  go_wp2_with fail
  refine (asker_any _).mono ?_
  rintro e w1 ⟨B, C, rfl, hB, hC, bk, o1⟩
  go_wp2_with fail
  go_loopw [9] (fun vi wr => ∃ i : Nat, i ≤ n ∧ vi = .int .i64 (i : Nat) ∧ Hid (Book wr B C i (fun z => seen ps z i)) ∧ Hid (anyTwice ps i = false) ∧ Old w wr) (fun vi _ => (n - intOf vi).toNat)
  case atStart => exact ⟨0, by omega, rfl, bk, rfl, o1⟩
  case round =>
    clear bk o1
    obtain ⟨i, hi, rfl, bk, T, hol⟩ := hrel
    by_cases hin : i = n
    · subst hin
      have hd : decide ((i : Int) < i) = false := decide_eq_false (by omega)
      go_wp2
      go_ret
      rw [T.out]
      exact ⟨rfl, hol⟩
    · have hil : i < n := by omega
      obtain ⟨b, off, z, v, rfl, AT, hc1, hc2, hz, hv⟩ := (HP.out.mono hol).at hil
      have h0 : (0 : Int) ≤ i := by omega
      have h1 : (i : Int) < n := by omega
      have BK := hide (bk.out.mono (Old.of_alloc _ (.cells #[.int .i64 z, .int .u64 (v : Nat)] 30)))
      have O2 := hol.alloc (.cells #[.int .i64 z, .int .u64 (v : Nat)] 30)
      have ST : Hid (decide (0 < seen ps z i) = twice ps i i) := by have := seen_twice ps i i; rw [AT.out.1] at this; exact this
      go_wp2_with fail
      refine (asked_any z hz _ B C i (by omega) _ BK.out).mono ?_
      rintro e w2 ⟨rfl, b2, g2⟩
      have O3 : Old w w2 := O2.grown g2 hB
      rw [ST.out]
      by_cases ht : twice ps i i = true
      · rw [ht]
        have TT : Hid (anyTwice ps n = true) := anyTwice_le (k := i + 1) (by omega) (by rw [anyTwice, ht, Bool.or_true])
        go_wp2
        go_ret
        rw [TT.out]
        exact ⟨rfl, O3⟩
      · have hf : twice ps i i = false := by simpa using ht
        rw [hf]
        go_wp2
        go_roundw
        case rel =>
          refine ⟨i + 1, by omega, by go_num, ?_, ?_, O3⟩
          · have e : (fun z' => seen ps z' (i + 1)) = fun y => if y = z then seen ps y i + 1 else seen ps y i := by
              funext y
              rw [seen, AT.out.1]
            show Book _ _ _ _ _
            rw [e]; exact b2
          · show anyTwice ps (i + 1) = false
            rw [anyTwice, T.out, hf]; rfl
        case measure => simp [intOf]; omega

set_option maxHeartbeats 2000000 in
theorem allInRange_any (ps : List Pt) (n : Nat) (a : Option Addr) (cap : Nat) (w : World) (hp : PtsOf w a n cap ps) (hn : n ≤ 64) :
    Calls Try.prog 43 #[.slice a n cap] w fun e w' => e = .returned (.bool (!anyWide ps n)) ∧ Old w w' := by
  have HP := hide hp
  clear hp
  go_enter Try.func43, Try.ntmps43
  go_wp2_with fail
  go_loopw [7] (fun vi wr => ∃ i : Nat, i ≤ n ∧ vi = .int .i64 (i : Nat) ∧ Hid (anyWide ps i = false) ∧ Old w wr) (fun vi _ => (n - intOf vi).toNat)
  case atStart => exact ⟨0, by omega, rfl, rfl, Old.refl _⟩
  case round =>
    obtain ⟨i, hi, rfl, T, hol⟩ := hrel
    by_cases hin : i = n
    · subst hin
      have hd : decide ((i : Int) < i) = false := decide_eq_false (by omega)
      go_wp2
      go_ret
      rw [T.out]
      exact ⟨rfl, hol⟩
    · have hil : i < n := by omega
      obtain ⟨b, off, z, v, rfl, AT, hc1, hc2, hz, hv⟩ := (HP.out.mono hol).at hil
      have h0 : (0 : Int) ≤ i := by omega
      have h1 : (i : Int) < n := by omega
      have O2 := hol.alloc (.cells #[.int .i64 z, .int .u64 (v : Nat)] 30)
      by_cases hw : wide z v = true
      · have HW : Hid (anyWide ps n = true) := by
          refine anyWide_le (k := i + 1) (by omega) ?_
          rw [anyWide, AT.out.1, AT.out.2, hw, Bool.or_true]
        by_cases w1 : z < 1
        · have e1 : decide (z < 1) = true := decide_eq_true w1
          go_wp2
          go_ret
          rw [HW.out]
          exact ⟨rfl, O2⟩
        · have e1 : decide (z < 1) = false := decide_eq_false w1
          by_cases w2 : 64 < z
          · have e2 : decide (64 < z) = true := decide_eq_true w2
            go_wp2
            go_ret
            rw [HW.out]
            exact ⟨rfl, O2⟩
          · have e2 : decide (64 < z) = false := decide_eq_false w2
            have w3 : 2305843009213693951 ≤ v := by simpa [wide, e1, e2] using hw
            have e3 : decide ((2305843009213693951 : Int) ≤ (v : Nat)) = true := decide_eq_true (by omega)
            go_wp2
            go_ret
            rw [HW.out]
            exact ⟨rfl, O2⟩
      · have hw' : wide z v = false := by simpa using hw
        have HW : Hid (anyWide ps (i + 1) = false) := by
          show _ = _
          rw [anyWide, AT.out.1, AT.out.2, hw', T.out]; rfl
        simp only [wide, Bool.or_eq_false_iff] at hw'
        obtain ⟨⟨e1, e2⟩, e3'⟩ := hw'
        have e3 : decide ((2305843009213693951 : Int) ≤ (v : Nat)) = false := by
          rw [decide_eq_false_iff_not] at e3' ⊢; omega
        go_wp2
        go_roundw
        case rel => exact ⟨i + 1, by omega, by go_num, HW, O2⟩
        case measure => simp [intOf]; omega

set_option maxHeartbeats 2000000 in
theorem fault_any (ps : List Pt) (n : Nat) (a : Option Addr) (cap : Nat) (w : World) (hp : PtsOf w a n cap ps) (hn : n ≤ 281474976710656) :
    Calls Try.prog 35 #[.slice a n cap] w fun e w' => e = .returned (.int .i64 (errOf ps : Nat)) ∧ Old w w' := by
  have HE : Hid (errOf ps = if n = 0 ∨ 64 < n then 1 else if anyTwice ps n = true then 1 else numE (anyWide ps n)) := by show _ = _; rw [errOf, hp.1]
  have HP := hide hp
  clear hp
  by_cases h0 : n = 0
  · subst h0
    go_enter Try.func35, Try.ntmps35
    go_wp2
    go_ret
    rw [HE.out]
    exact ⟨rfl, Old.refl _⟩
  · have hz : ((n : Int) == 0) = false := by rw [beq_eq_false_iff_ne]; omega
    by_cases h64 : 64 < n
    · have hg : decide ((64 : Int) < n) = true := decide_eq_true (by omega)
      go_enter Try.func35, Try.ntmps35
      go_wp2
      go_ret
      rw [HE.out, if_pos (.inr h64)]
      exact ⟨rfl, Old.refl _⟩
    · have hg : decide ((64 : Int) < n) = false := decide_eq_false (by omega)
      have HE2 : Hid (errOf ps = if anyTwice ps n = true then 1 else numE (anyWide ps n)) := by show _ = _; rw [HE.out, if_neg (by omega)]
      clear HE
      go_enter Try.func35, Try.ntmps35
      go_wp2_with fail
      refine (anyTwice_any ps n _ _ _ HP.out (by omega)).mono ?_
      rintro e w1 ⟨rfl, o1⟩
      have HP1 := hide (HP.out.mono o1)
      by_cases ht : anyTwice ps n = true
      · rw [ht]
        go_wp2
        go_ret
        rw [HE2.out, if_pos ht]
        exact ⟨rfl, o1⟩
      · have hf : anyTwice ps n = false := by simpa using ht
        rw [hf]
        go_wp2_with fail
        refine (allInRange_any ps n _ _ _ HP1.out (by omega)).mono ?_
        rintro e w2 ⟨rfl, o2⟩
        by_cases hw : anyWide ps n = true
        · rw [hw]
          go_wp2
          go_ret
          rw [HE2.out, if_neg ht, hw]
          exact ⟨rfl, o1.trans o2⟩
        · have hw' : anyWide ps n = false := by simpa using hw
          rw [hw']
          go_wp2
          go_ret
          rw [HE2.out, if_neg ht, hw']
          exact ⟨rfl, o1.trans o2⟩
end Go.Proofs.Ythfaahngnnfefaa
