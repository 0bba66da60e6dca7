/-
  MgWc: 2 parts, one behind the other; what each proves, and under which conditions, its own heading says.
-/
import Derived.Test.YtepchjpdfmleoaaMgWa
import Derived.Test.YtepchjpdfmleoaaMgLetA
import Derived.Test.YtepchjpdfmleoaaRefSame15

/-
  Package words: are two lists one, each thing like the other's?
-/
namespace Go.Proofs.Ytepchjpdfmleoaa
open Go.RowKit Cn Pn Wn
set_option linter.unusedVariables false

theorem rd_numK {w : World} {a : Option Addr} {k : IntKind} {zs : List Nat} (h : Rd w a (nums k zs)) {i : Nat} (hi : i < zs.length) :
    ∃ b off, a = some ⟨b, off, none⟩ ∧ w.cell? ⟨b, off + i, none⟩ = some (.int k ((zs.getD i 0 : Nat) : Int)) := by
  obtain ⟨b, off, ha, hc⟩ := h i (.int k ((zs.getD i 0 : Nat) : Int)) (by simp [nums, List.getD, hi])
  exact ⟨b, off, ha, hc⟩
theorem take_stepA {α : Type} {xs ys : List α} {z : α} {k : Nat} (h : xs.take k = ys.take k) (hx : k < xs.length) (hy : k < ys.length) (e : xs.getD k z = ys.getD k z) : xs.take (k + 1) = ys.take (k + 1) := by
  rw [List.take_add_one, List.take_add_one, h, List.getElem?_eq_getElem hx, List.getElem?_eq_getElem hy]
  simp only [List.getD, List.getElem?_eq_getElem hx, List.getElem?_eq_getElem hy, Option.getD_some] at e
  rw [e]


set_option maxHeartbeats 2000000 in
theorem equal32_any {a b : Option Addr} {n m : Nat} {xs ys : List Nat} (ca cb : Nat) (w : World) (hn : n ≤ 9223372036854775807) (lx : xs.length = n) (ly : ys.length = m) (rx : Rd w a (nums .u32 xs)) (ry : Rd w b (nums .u32 ys)) :
    Calls Try.prog 39 #[.slice a n ca, .slice b m cb] w fun e w' => e = .returned (.bool (decide (xs = ys))) ∧ Old w w' := by
  have LX := hide lx
  have LY := hide ly
  have HN := hide hn
  have RX := hide rx
  have RY := hide ry
  clear rx ry lx ly hn
  by_cases hnm : n = m
  · subst hnm
    have t0 : ((n : Int) != n) = false := by simp
    have t0' : (n != n) = false := by simp
    go_enter Try.func39, Try.ntmps39
    go_wp2_with fail
    clear t0 t0'
    go_loopw [13] (fun vi wr => ∃ k : Nat, k ≤ n ∧ vi = .int .i64 (k : Int) ∧ Hid (xs.take k = ys.take k) ∧ Hid (Old w wr)) (fun vi _ => n - (intOf vi).toNat)
    case atStart => exact ⟨0, Nat.zero_le _, rfl, rfl, Old.refl _⟩
    case round =>
      obtain ⟨k, hk, rfl, HT, R⟩ := hrel
      by_cases hl : k < n
      · have t3 : decide (k < n) = true := by simpa using hl
        have t3' : decide ((k : Int) < (n : Int)) = true := by simp; omega
        obtain ⟨b1, o1, rfl, cx⟩ := rd_numK (RX.out.mono R.out) (i := k) (by rw [LX.out]; exact hl)
        obtain ⟨b2, o2, rfl, cy⟩ := rd_numK (RY.out.mono R.out) (i := k) (by rw [LY.out]; exact hl)
        have NX := hide (fun e => take_stepA (z := 0) HT.out (by rw [LX.out]; exact hl) (by rw [LY.out]; exact hl) e)
        have ND : Hid (xs.getD k 0 ≠ ys.getD k 0 → decide (xs = ys) = false) := fun h => decide_eq_false fun e => h (by rw [e])
        have q0 : (0 : Int) ≤ k := by omega
        have q1 : (k : Int) < n := by omega
        generalize xs.getD k 0 = x at cx NX ND
        generalize ys.getD k 0 = y at cy NX ND
        by_cases hxy : x = y
        · subst hxy
          have t4 : ((x : Int) != x) = false := by simp
          have NY : Hid (xs.take (k + 1) = ys.take (k + 1)) := NX.out rfl
          have iw : wrap64 ((k : Int) + 1) = ((k + 1 : Nat) : Int) := by have := HN.out; unfold wrap64; omega
          clear NX ND
          go_wp2_with fail
          go_quiet (fail)
          go_wp2
          try rw [iw]
          exact ⟨⟨k + 1, by omega, rfl, NY, R.out.drewN _⟩, by simp [intOf]; omega⟩
        · have t4 : ((x : Int) != y) = true := by simp; omega
          have t4' : (x != y) = true := by simpa using hxy
          have E := hide (ND.out hxy)
          clear NX ND
          go_wp2_with fail
          go_quiet (fail)
          go_wp2
          go_ret
          exact ⟨by rw [E.out]; rfl, R.out.drewN _⟩
      · obtain rfl : k = n := by omega
        have t3 : decide (k < k) = false := by simp
        have t3' : decide ((k : Int) < (k : Int)) = false := by simp
        have EX : Hid (decide (xs = ys) = true) := decide_eq_true (by
          have := HT.out
          rw [List.take_of_length_le (by rw [LX.out]; exact Nat.le_refl _), List.take_of_length_le (by rw [LY.out]; exact Nat.le_refl _)] at this
          exact this)
        go_wp2
        go_ret
        exact ⟨by rw [EX.out]; rfl, R.out⟩
  · have t0 : (n != m) = true := by simpa using hnm
    have t0' : ((n : Int) != (m : Int)) = true := by simp; omega
    have E : Hid (decide (xs = ys) = false) := decide_eq_false fun e => hnm (by rw [← LX.out, ← LY.out, e])
    rw [E.out]
    go_enter Try.func39, Try.ntmps39
    go_wp2
    go_ret
    exact ⟨rfl, Old.refl _⟩

set_option maxHeartbeats 2000000 in
theorem equal64_any {a b : Option Addr} {n m : Nat} {xs ys : List Nat} (ca cb : Nat) (w : World) (hn : n ≤ 9223372036854775807) (lx : xs.length = n) (ly : ys.length = m) (rx : Rd w a (nums .u64 xs)) (ry : Rd w b (nums .u64 ys)) :
    Calls Try.prog 81 #[.slice a n ca, .slice b m cb] w fun e w' => e = .returned (.bool (decide (xs = ys))) ∧ Old w w' := by
  have LX := hide lx
  have LY := hide ly
  have HN := hide hn
  have RX := hide rx
  have RY := hide ry
  clear rx ry lx ly hn
  by_cases hnm : n = m
  · subst hnm
    have t0 : ((n : Int) != n) = false := by simp
    have t0' : (n != n) = false := by simp
    go_enter Try.func81, Try.ntmps81
    go_wp2_with fail
    clear t0 t0'
    go_loopw [13] (fun vi wr => ∃ k : Nat, k ≤ n ∧ vi = .int .i64 (k : Int) ∧ Hid (xs.take k = ys.take k) ∧ Hid (Old w wr)) (fun vi _ => n - (intOf vi).toNat)
    case atStart => exact ⟨0, Nat.zero_le _, rfl, rfl, Old.refl _⟩
    case round =>
      obtain ⟨k, hk, rfl, HT, R⟩ := hrel
      by_cases hl : k < n
      · have t3 : decide (k < n) = true := by simpa using hl
        have t3' : decide ((k : Int) < (n : Int)) = true := by simp; omega
        obtain ⟨b1, o1, rfl, cx⟩ := rd_numK (RX.out.mono R.out) (i := k) (by rw [LX.out]; exact hl)
        obtain ⟨b2, o2, rfl, cy⟩ := rd_numK (RY.out.mono R.out) (i := k) (by rw [LY.out]; exact hl)
        have NX := hide (fun e => take_stepA (z := 0) HT.out (by rw [LX.out]; exact hl) (by rw [LY.out]; exact hl) e)
        have ND : Hid (xs.getD k 0 ≠ ys.getD k 0 → decide (xs = ys) = false) := fun h => decide_eq_false fun e => h (by rw [e])
        have q0 : (0 : Int) ≤ k := by omega
        have q1 : (k : Int) < n := by omega
        generalize xs.getD k 0 = x at cx NX ND
        generalize ys.getD k 0 = y at cy NX ND
        by_cases hxy : x = y
        · subst hxy
          have t4 : ((x : Int) != x) = false := by simp
          have NY : Hid (xs.take (k + 1) = ys.take (k + 1)) := NX.out rfl
          have iw : wrap64 ((k : Int) + 1) = ((k + 1 : Nat) : Int) := by have := HN.out; unfold wrap64; omega
          clear NX ND
          go_wp2_with fail
          go_quiet (fail)
          go_wp2
          try rw [iw]
          exact ⟨⟨k + 1, by omega, rfl, NY, R.out.drewN _⟩, by simp [intOf]; omega⟩
        · have t4 : ((x : Int) != y) = true := by simp; omega
          have t4' : (x != y) = true := by simpa using hxy
          have E := hide (ND.out hxy)
          clear NX ND
          go_wp2_with fail
          go_quiet (fail)
          go_wp2
          go_ret
          exact ⟨by rw [E.out]; rfl, R.out.drewN _⟩
      · obtain rfl : k = n := by omega
        have t3 : decide (k < k) = false := by simp
        have t3' : decide ((k : Int) < (k : Int)) = false := by simp
        have EX : Hid (decide (xs = ys) = true) := decide_eq_true (by
          have := HT.out
          rw [List.take_of_length_le (by rw [LX.out]; exact Nat.le_refl _), List.take_of_length_le (by rw [LY.out]; exact Nat.le_refl _)] at this
          exact this)
        go_wp2
        go_ret
        exact ⟨by rw [EX.out]; rfl, R.out⟩
  · have t0 : (n != m) = true := by simpa using hnm
    have t0' : ((n : Int) != (m : Int)) = true := by simp; omega
    have E : Hid (decide (xs = ys) = false) := decide_eq_false fun e => hnm (by rw [← LX.out, ← LY.out, e])
    rw [E.out]
    go_enter Try.func81, Try.ntmps81
    go_wp2
    go_ret
    exact ⟨rfl, Old.refl _⟩

set_option maxHeartbeats 2000000 in
theorem equalI_any {a b : Option Addr} {n m : Nat} {xs ys : List Int} (ca cb : Nat) (w : World) (hn : n ≤ 9223372036854775807) (lx : xs.length = n) (ly : ys.length = m) (rx : Rd w a (ints xs)) (ry : Rd w b (ints ys)) :
    Calls Try.prog 40 #[.slice a n ca, .slice b m cb] w fun e w' => e = .returned (.bool (decide (xs = ys))) ∧ Old w w' := by
  have LX := hide lx
  have LY := hide ly
  have HN := hide hn
  have RX := hide rx
  have RY := hide ry
  clear rx ry lx ly hn
  by_cases hnm : n = m
  · subst hnm
    have t0 : ((n : Int) != n) = false := by simp
    have t0' : (n != n) = false := by simp
    go_enter Try.func40, Try.ntmps40
    go_wp2_with fail
    clear t0 t0'
    go_loopw [13] (fun vi wr => ∃ k : Nat, k ≤ n ∧ vi = .int .i64 (k : Int) ∧ Hid (xs.take k = ys.take k) ∧ Hid (Old w wr)) (fun vi _ => n - (intOf vi).toNat)
    case atStart => exact ⟨0, Nat.zero_le _, rfl, rfl, Old.refl _⟩
    case round =>
      obtain ⟨k, hk, rfl, HT, R⟩ := hrel
      by_cases hl : k < n
      · have t3 : decide (k < n) = true := by simpa using hl
        have t3' : decide ((k : Int) < (n : Int)) = true := by simp; omega
        obtain ⟨b1, o1, rfl, cx⟩ := rd_int (RX.out.mono R.out) (i := k) (by rw [LX.out]; exact hl)
        obtain ⟨b2, o2, rfl, cy⟩ := rd_int (RY.out.mono R.out) (i := k) (by rw [LY.out]; exact hl)
        have NX := hide (fun e => take_stepA (z := 0) HT.out (by rw [LX.out]; exact hl) (by rw [LY.out]; exact hl) e)
        have ND : Hid (xs.getD k 0 ≠ ys.getD k 0 → decide (xs = ys) = false) := fun h => decide_eq_false fun e => h (by rw [e])
        have q0 : (0 : Int) ≤ k := by omega
        have q1 : (k : Int) < n := by omega
        generalize xs.getD k 0 = x at cx NX ND
        generalize ys.getD k 0 = y at cy NX ND
        by_cases hxy : x = y
        · subst hxy
          have t4 : (x != x) = false := by simp
          have NY : Hid (xs.take (k + 1) = ys.take (k + 1)) := NX.out rfl
          have iw : wrap64 ((k : Int) + 1) = ((k + 1 : Nat) : Int) := by have := HN.out; unfold wrap64; omega
          clear NX ND
          go_wp2_with fail
          go_quiet (fail)
          go_wp2
          try rw [iw]
          exact ⟨⟨k + 1, by omega, rfl, NY, R.out.drewN _⟩, by simp [intOf]; omega⟩
        · have t4 : (x != y) = true := by simp; omega
          have t4' : (x != y) = true := by simpa using hxy
          have E := hide (ND.out hxy)
          clear NX ND
          go_wp2_with fail
          go_quiet (fail)
          go_wp2
          go_ret
          exact ⟨by rw [E.out]; rfl, R.out.drewN _⟩
      · obtain rfl : k = n := by omega
        have t3 : decide (k < k) = false := by simp
        have t3' : decide ((k : Int) < (k : Int)) = false := by simp
        have EX : Hid (decide (xs = ys) = true) := decide_eq_true (by
          have := HT.out
          rw [List.take_of_length_le (by rw [LX.out]; exact Nat.le_refl _), List.take_of_length_le (by rw [LY.out]; exact Nat.le_refl _)] at this
          exact this)
        go_wp2
        go_ret
        exact ⟨by rw [EX.out]; rfl, R.out⟩
  · have t0 : (n != m) = true := by simpa using hnm
    have t0' : ((n : Int) != (m : Int)) = true := by simp; omega
    have E : Hid (decide (xs = ys) = false) := decide_eq_false fun e => hnm (by rw [← LX.out, ← LY.out, e])
    rw [E.out]
    go_enter Try.func40, Try.ntmps40
    go_wp2
    go_ret
    exact ⟨rfl, Old.refl _⟩
theorem bytesEqual_any {a b : Option Addr} {n m : Nat} {xs ys : List Nat} (ca cb : Nat) (w : World) (lx : xs.length = n) (ly : ys.length = m) (hx : ∀ x ∈ xs, x < 256) (hy : ∀ x ∈ ys, x < 256) (rx : Rd w a (nums .u8 xs)) (ry : Rd w b (nums .u8 ys)) :
    Calls Try.prog 80 #[.slice a n ca, .slice b m cb] w fun e w' => e = .returned (.bool (decide (xs = ys))) ∧ Old w w' := by
  have C1 : (convert 32 9 (.slice a n ca)).run Try.prog w = .ok (.string (Ssb.bstr xs)) w := Ssb.run_bstr Try.underlying32 Try.underlying5 Try.underlying9 lx rx
  have C2 : (convert 32 9 (.slice b m cb)).run Try.prog w = .ok (.string (Ssb.bstr ys)) w := Ssb.run_bstr Try.underlying32 Try.underlying5 Try.underlying9 ly ry
  have TE : ((Ssb.bstr xs).toList == (Ssb.bstr ys).toList) = decide (xs = ys) := by
    by_cases h : xs = ys
    · subst h; simp
    · rw [decide_eq_false h, beq_eq_false_iff_ne]
      exact fun e => h (bsl_inj hx hy e)
  clear hx hy rx ry lx ly
  generalize decide (xs = ys) = B at *
  go_enter Try.func80, Try.ntmps80
  go_wp2
  go_ret
  exact ⟨by simp, Old.refl _⟩

set_option maxRecDepth 100000 in
set_option maxHeartbeats 1000000 in
theorem sameParcel_any (p q : Parcel) (a b : Option Addr) (ca cb : Nat) (w : World) (hn : p.data.length ≤ 9223372036854775807) (hx : ∀ x ∈ p.data, x < 256) (hy : ∀ x ∈ q.data, x < 256) (rx : Rd w a (nums .u8 p.data)) (ry : Rd w b (nums .u8 q.data)) :
    Calls Try.prog 38 #[.agg #[.int .i64 p.frm, .int .i64 p.to, .slice a p.data.length ca], .agg #[.int .i64 q.frm, .int .i64 q.to, .slice b q.data.length cb]] w fun e w' => e = .returned (.bool (decide (p = q))) ∧ Old w w' := by
  obtain ⟨p1, p2, p3⟩ := p
  obtain ⟨q1, q2, q3⟩ := q
  simp only at *
  have E : decide ((⟨p1, p2, p3⟩ : Parcel) = ⟨q1, q2, q3⟩) = (decide (p1 = q1) && (decide (p2 = q2) && decide (p3 = q3))) := Bool.eq_iff_iff.2 (by simp)
  rw [E]
  have O0 := hide ((Old.of_alloc w (.cells #[.int .i64 p1, .int .i64 p2, .slice a p3.length ca] 50)).alloc (.cells #[.int .i64 q1, .int .i64 q2, .slice b q3.length cb] 50))
  have C := hide (fun (wr : World) (o : Old w wr) => bytesEqual_any ca cb wr rfl rfl hx hy (rx.mono o) (ry.mono o))
  clear E rx ry
  generalize decide (p3 = q3) = b3 at *
  by_cases h1 : p1 = q1
  · have t1 : (p1 == q1) = true := by simpa using h1
    rw [decide_eq_true h1, Bool.true_and]
    clear h1
    by_cases h2 : p2 = q2
    · have t2 : (p2 == q2) = true := by simpa using h2
      rw [decide_eq_true h2, Bool.true_and]
      clear h2
      go_enter Try.func38, Try.ntmps38
      go_wp2_with fail
      refine (C.out _ O0.out).mono ?_
      rintro e w1 ⟨rfl, o1⟩
      have O1 := hide (O0.out.trans o1)
      clear o1
      go_wp2
      go_ret
      exact ⟨rfl, O1.out⟩
    · have t2 : (p2 == q2) = false := by simpa using h2
      rw [decide_eq_false h2, Bool.false_and]
      clear h2
      go_enter Try.func38, Try.ntmps38
      go_wp2
      go_ret
      exact ⟨rfl, O0.out⟩
  · have t1 : (p1 == q1) = false := by simpa using h1
    rw [decide_eq_false h1, Bool.false_and]
    clear h1
    go_enter Try.func38, Try.ntmps38
    go_wp2
    go_ret
    exact ⟨rfl, O0.out⟩

set_option maxRecDepth 100000 in
set_option maxHeartbeats 1000000 in
theorem sameOpening_any (p q : Opening) (a b : Option Addr) (ca cb : Nat) (w : World) (hn : p.vals.length ≤ 9223372036854775807) (rx : Rd w a (nums .u64 p.vals)) (ry : Rd w b (nums .u64 q.vals)) :
    Calls Try.prog 42 #[.agg #[.int .i64 p.who, .bool p.own, .slice a p.vals.length ca], .agg #[.int .i64 q.who, .bool q.own, .slice b q.vals.length cb]] w fun e w' => e = .returned (.bool (decide (p = q))) ∧ Old w w' := by
  obtain ⟨p1, p2, p3⟩ := p
  obtain ⟨q1, q2, q3⟩ := q
  simp only at *
  have E : decide ((⟨p1, p2, p3⟩ : Opening) = ⟨q1, q2, q3⟩) = (decide (p1 = q1) && (decide (p2 = q2) && decide (p3 = q3))) := Bool.eq_iff_iff.2 (by simp)
  rw [E]
  have O0 := hide ((Old.of_alloc w (.cells #[.int .i64 p1, .bool p2, .slice a p3.length ca] 53)).alloc (.cells #[.int .i64 q1, .bool q2, .slice b q3.length cb] 53))
  have C := hide (fun (wr : World) (o : Old w wr) => equal64_any ca cb wr hn rfl rfl (rx.mono o) (ry.mono o))
  clear E rx ry
  generalize decide (p3 = q3) = b3 at *
  by_cases h1 : p1 = q1
  · have t1 : (p1 == q1) = true := by simpa using h1
    rw [decide_eq_true h1, Bool.true_and]
    clear h1
    by_cases h2 : p2 = q2
    · have t2 : (p2 == q2) = true := by simpa using h2
      rw [decide_eq_true h2, Bool.true_and]
      clear h2
      go_enter Try.func42, Try.ntmps42
      go_wp2_with fail
      refine (C.out _ O0.out).mono ?_
      rintro e w1 ⟨rfl, o1⟩
      have O1 := hide (O0.out.trans o1)
      clear o1
      go_wp2
      go_ret
      exact ⟨rfl, O1.out⟩
    · have t2 : (p2 == q2) = false := by simpa using h2
      rw [decide_eq_false h2, Bool.false_and]
      clear h2
      go_enter Try.func42, Try.ntmps42
      go_wp2
      go_ret
      exact ⟨rfl, O0.out⟩
  · have t1 : (p1 == q1) = false := by simpa using h1
    rw [decide_eq_false h1, Bool.false_and]
    clear h1
    go_enter Try.func42, Try.ntmps42
    go_wp2
    go_ret
    exact ⟨rfl, O0.out⟩

set_option maxRecDepth 100000 in
set_option maxHeartbeats 4000000 in
theorem equalCards (a b : Option Addr) (ca cb : Nat) (l k : List Card) (hn : l.length ≤ 9223372036854775807) (w : World) (H : Tri w a cardV l) (G : Tri w b cardV k) :
    Calls Try.prog 36 #[.slice a l.length ca, .slice b k.length cb] w fun e w' => e = .returned (.bool (decide (l = k))) ∧ Old w w' := by
  have HN := hide hn
  have HH := hide H
  have HG := hide G
  clear hn H G
  by_cases hnm : l.length = k.length
  · have t0 : ((l.length : Int) != (k.length : Int)) = false := by simp; omega
    have t0' : (l.length != k.length) = false := by simpa using hnm
    have LK := hide hnm
    clear hnm
    go_enter Try.func36, Try.ntmps36
    go_wp2_with fail
    clear t0 t0'
    go_loopw [13] (fun vi wr => ∃ i : Nat, i ≤ l.length ∧ vi = .int .i64 (i : Int) ∧ Hid (l.take i = k.take i) ∧ Hid (Old w wr)) (fun vi _ => l.length - (intOf vi).toNat)
    case atStart => exact ⟨0, Nat.zero_le _, rfl, rfl, Old.refl _⟩
    case round =>
      obtain ⟨i, hi, rfl, HT, O⟩ := hrel
      by_cases hl : i < l.length
      · have t3 : decide (i < l.length) = true := by simpa using hl
        have t3' : decide ((i : Int) < (l.length : Int)) = true := by simp; omega
        have hl2 : i < k.length := by have := LK.out; omega
        have q0 : (0 : Int) ≤ i := by omega
        have q1 : (i : Int) < l.length := by omega
        have q2 : (i : Int) < k.length := by omega
        have iw : wrap64 ((i : Int) + 1) = ((i + 1 : Nat) : Int) := by have := HN.out; unfold wrap64; omega
        obtain ⟨x, hx⟩ : ∃ x, l[i]? = some x := ⟨_, List.getElem?_eq_getElem hl⟩
        obtain ⟨y, hy⟩ : ∃ y, k[i]? = some y := ⟨_, List.getElem?_eq_getElem hl2⟩
        have NX : Hid (x = y → l.take (i + 1) = k.take (i + 1)) := fun e => by rw [List.take_add_one, List.take_add_one, HT.out, hx, hy, e]
        have ND : Hid (x ≠ y → decide (l = k) = false) := fun h => by
          apply decide_eq_false
          rintro rfl
          rw [hx] at hy
          exact h (Option.some.inj hy)
        obtain ⟨ab, ao, rfl, cx0, cx1, cx2⟩ := (HH.out.mono O.out) i x hx
        obtain ⟨bb, bo, rfl, cy0, cy1, cy2⟩ := (HG.out.mono O.out) i y hy
        simp only [cardV] at cx0 cx1 cx2 cy0 cy1 cy2
        clear hx hy
        obtain ⟨x1, x2, x3⟩ := x
        obtain ⟨y1, y2, y3⟩ := y
        simp only at cx0 cx1 cx2 cy0 cy1 cy2
        by_cases h1 : x1 = y1
        · subst h1
          by_cases h2 : x2 = y2
          · subst h2
            by_cases h3 : x3 = y3
            · subst h3
              have NY := hide (NX.out rfl)
              clear NX ND
              go_wp2_with fail
              go_region
              go_wp2_with fail
              try rw [iw]
              exact ⟨⟨i + 1, by omega, by simp, NY, O.out.drewN 1⟩, by simp [intOf]; omega⟩
            · have n3 : ¬ (x3 : Int) = y3 := by omega
              have E := hide (ND.out (by simp [h3]))
              clear NX ND h3
              go_wp2_with fail
              go_region
              go_wp2
              go_ret
              exact ⟨by rw [E.out]; rfl, O.out.drewN 1⟩
          · have n2 : ¬ (x2 : Int) = y2 := by omega
            have E := hide (ND.out (by simp [h2]))
            clear NX ND h2
            go_wp2_with fail
            go_region
            go_wp2
            go_ret
            exact ⟨by rw [E.out]; rfl, O.out.drewN 1⟩
        · have E := hide (ND.out (by simp [h1]))
          clear NX ND
          go_wp2_with fail
          go_region
          go_wp2
          go_ret
          exact ⟨by rw [E.out]; rfl, O.out.drewN 1⟩
      · obtain rfl : i = l.length := by omega
        have t3 : decide (l.length < l.length) = false := by simp
        have t3' : decide ((l.length : Int) < (l.length : Int)) = false := by simp
        have EX : Hid (decide (l = k) = true) := decide_eq_true (by
          have := HT.out
          rw [List.take_of_length_le (Nat.le_refl _), List.take_of_length_le (by rw [LK.out]; exact Nat.le_refl _)] at this
          exact this)
        go_wp2
        go_ret
        exact ⟨by rw [EX.out]; rfl, O.out⟩
  · have t0 : (l.length != k.length) = true := by simpa using hnm
    have t0' : ((l.length : Int) != (k.length : Int)) = true := by simp; omega
    have E : Hid (decide (l = k) = false) := decide_eq_false fun e => hnm (by rw [e])
    rw [E.out]
    go_enter Try.func36, Try.ntmps36
    go_wp2
    go_ret
    exact ⟨rfl, Old.refl _⟩

set_option maxRecDepth 100000 in
set_option maxHeartbeats 4000000 in
theorem equalParcels (a b : Option Addr) (ca cb : Nat) (l k : List Parcel) (oa : Nat → Option Addr) (oc : Nat → Nat) (ob : Nat → Option Addr) (od : Nat → Nat) (hn : l.length ≤ 9223372036854775807) (w : World) (H : Tri w a (parcelV oa oc) l) (G : Tri w b (parcelV ob od) k) (hx : ∀ (i : Nat) (x : Parcel), l[i]? = some x → Rd w (oa i) (nums .u8 x.data) ∧ (∀ y ∈ x.data, y < 256) ∧ x.data.length ≤ 9223372036854775807) (hy : ∀ (i : Nat) (x : Parcel), k[i]? = some x → Rd w (ob i) (nums .u8 x.data) ∧ ∀ y ∈ x.data, y < 256) :
    Calls Try.prog 37 #[.slice a l.length ca, .slice b k.length cb, .func (.func 38) #[] #[]] w fun e w' => e = .returned (.bool (decide (l = k))) ∧ Old w w' := by
  have HN := hide hn
  have HH := hide H
  have HG := hide G
  have HX := hide hx
  have HY := hide hy
  clear hx hy
  clear hn H G
  by_cases hnm : l.length = k.length
  · have t0 : ((l.length : Int) != (k.length : Int)) = false := by simp; omega
    have t0' : (l.length != k.length) = false := by simpa using hnm
    have LK := hide hnm
    clear hnm
    go_enter Try.func37, Try.ntmps37
    go_wp2_with fail
    clear t0 t0'
    go_loopw [17] (fun vi wr => ∃ i : Nat, i ≤ l.length ∧ vi = .int .i64 (i : Int) ∧ Hid (l.take i = k.take i) ∧ Hid (Old w wr)) (fun vi _ => l.length - (intOf vi).toNat)
    case atStart => exact ⟨0, Nat.zero_le _, rfl, rfl, Old.refl _⟩
    case round =>
      obtain ⟨i, hi, rfl, HT, O⟩ := hrel
      by_cases hl : i < l.length
      · have t3 : decide (i < l.length) = true := by simpa using hl
        have t3' : decide ((i : Int) < (l.length : Int)) = true := by simp; omega
        have hl2 : i < k.length := by have := LK.out; omega
        have q0 : (0 : Int) ≤ i := by omega
        have q1 : (i : Int) < l.length := by omega
        have q2 : (i : Int) < k.length := by omega
        have iw : wrap64 ((i : Int) + 1) = ((i + 1 : Nat) : Int) := by have := HN.out; unfold wrap64; omega
        obtain ⟨x, hx⟩ : ∃ x, l[i]? = some x := ⟨_, List.getElem?_eq_getElem hl⟩
        obtain ⟨y, hy⟩ : ∃ y, k[i]? = some y := ⟨_, List.getElem?_eq_getElem hl2⟩
        have NX : Hid (x = y → l.take (i + 1) = k.take (i + 1)) := fun e => by rw [List.take_add_one, List.take_add_one, HT.out, hx, hy, e]
        have ND : Hid (x ≠ y → decide (l = k) = false) := fun h => by
          apply decide_eq_false
          rintro rfl
          rw [hx] at hy
          exact h (Option.some.inj hy)
        obtain ⟨ab, ao, rfl, cx0, cx1, cx2⟩ := (HH.out.mono O.out) i x hx
        obtain ⟨bb, bo, rfl, cy0, cy1, cy2⟩ := (HG.out.mono O.out) i y hy
        simp only [parcelV] at cx0 cx1 cx2 cy0 cy1 cy2
        have C := hide (fun (ww : World) (o : Old wr ww) => sameParcel_any x y (oa i) (ob i) (oc i) (od i) ww (HX.out i x hx).2.2 (HX.out i x hx).2.1 (HY.out i y hy).2 (((HX.out i x hx).1.mono O.out).mono o) (((HY.out i y hy).1.mono O.out).mono o))
        clear hx hy
        obtain ⟨bb3, hb3⟩ : ∃ bb3, bb3 = decide (x = y) := ⟨_, rfl⟩
        rw [← hb3] at C
        have OA := hide ((Old.of_alloc wr (.cells #[.int .i64 x.frm, .int .i64 x.to, .slice (oa i) x.data.length (oc i)] 50)).alloc (.cells #[.int .i64 y.frm, .int .i64 y.to, .slice (ob i) y.data.length (od i)] 50))
        have e10 := ((Row.new wr 50 [.int .i64 x.frm, .int .i64 x.to, .slice (oa i) x.data.length (oc i)]).mono (Old.of_alloc _ (.cells #[.int .i64 y.frm, .int .i64 y.to, .slice (ob i) y.data.length (od i)] 50)))
        have e11 := (rowN (w := wr.alloc (.cells #[.int .i64 x.frm, .int .i64 x.to, .slice (oa i) x.data.length (oc i)] 50)) (g := wr.heap.size + 1) 50 [.int .i64 y.frm, .int .i64 y.to, .slice (ob i) y.data.length (od i)] (by rw [World.size_alloc]))
        have c0 := e10.cell (i := 0) rfl
        have c1 := e10.cell (i := 1) rfl
        have c2 := e10.cell (i := 2) rfl
        have d0 := e11.cell (i := 0) rfl
        have d1 := e11.cell (i := 1) rfl
        have d2 := e11.cell (i := 2) rfl
        have ky0 := (Old.of_alloc wr (.cells #[.int .i64 x.frm, .int .i64 x.to, .slice (oa i) x.data.length (oc i)] 50)).cell cy0
        have ky1 := (Old.of_alloc wr (.cells #[.int .i64 x.frm, .int .i64 x.to, .slice (oa i) x.data.length (oc i)] 50)).cell cy1
        have ky2 := (Old.of_alloc wr (.cells #[.int .i64 x.frm, .int .i64 x.to, .slice (oa i) x.data.length (oc i)] 50)).cell cy2
        clear e10 e11
        cases bb3
        · have E := hide (ND.out (of_decide_eq_false hb3.symm))
          clear NX ND hb3
          go_wp2_with fail
          refine (C.out _ OA.out).mono ?_
          rintro e w3 ⟨rfl, o3⟩
          have O3 := hide (O.out.trans (OA.out.trans o3))
          clear o3 C O OA
          go_wp2
          go_ret
          exact ⟨by rw [E.out]; rfl, O3.out⟩
        · have NY := hide (NX.out (of_decide_eq_true hb3.symm))
          clear NX ND hb3
          go_wp2_with fail
          refine (C.out _ OA.out).mono ?_
          rintro e w3 ⟨rfl, o3⟩
          have O3 := hide (O.out.trans (OA.out.trans o3))
          clear o3 C O OA
          go_wp2_with fail
          try rw [iw]
          exact ⟨⟨i + 1, by omega, by simp, NY, O3⟩, by simp [intOf]; omega⟩
      · obtain rfl : i = l.length := by omega
        have t3 : decide (l.length < l.length) = false := by simp
        have t3' : decide ((l.length : Int) < (l.length : Int)) = false := by simp
        have EX : Hid (decide (l = k) = true) := decide_eq_true (by
          have := HT.out
          rw [List.take_of_length_le (Nat.le_refl _), List.take_of_length_le (by rw [LK.out]; exact Nat.le_refl _)] at this
          exact this)
        go_wp2
        go_ret
        exact ⟨by rw [EX.out]; rfl, O.out⟩
  · have t0 : (l.length != k.length) = true := by simpa using hnm
    have t0' : ((l.length : Int) != (k.length : Int)) = true := by simp; omega
    have E : Hid (decide (l = k) = false) := decide_eq_false fun e => hnm (by rw [e])
    rw [E.out]
    go_enter Try.func37, Try.ntmps37
    go_wp2
    go_ret
    exact ⟨rfl, Old.refl _⟩

set_option maxRecDepth 100000 in
set_option maxHeartbeats 4000000 in
theorem equalOpenings (a b : Option Addr) (ca cb : Nat) (l k : List Opening) (oa : Nat → Option Addr) (oc : Nat → Nat) (ob : Nat → Option Addr) (od : Nat → Nat) (hn : l.length ≤ 9223372036854775807) (w : World) (H : Tri w a (openingV oa oc) l) (G : Tri w b (openingV ob od) k) (hx : ∀ (i : Nat) (x : Opening), l[i]? = some x → Rd w (oa i) (nums .u64 x.vals) ∧ x.vals.length ≤ 9223372036854775807) (hy : ∀ (i : Nat) (x : Opening), k[i]? = some x → Rd w (ob i) (nums .u64 x.vals)) :
    Calls Try.prog 41 #[.slice a l.length ca, .slice b k.length cb, .func (.func 42) #[] #[]] w fun e w' => e = .returned (.bool (decide (l = k))) ∧ Old w w' := by
  have HN := hide hn
  have HH := hide H
  have HG := hide G
  have HX := hide hx
  have HY := hide hy
  clear hx hy
  clear hn H G
  by_cases hnm : l.length = k.length
  · have t0 : ((l.length : Int) != (k.length : Int)) = false := by simp; omega
    have t0' : (l.length != k.length) = false := by simpa using hnm
    have LK := hide hnm
    clear hnm
    go_enter Try.func41, Try.ntmps41
    go_wp2_with fail
    clear t0 t0'
    go_loopw [17] (fun vi wr => ∃ i : Nat, i ≤ l.length ∧ vi = .int .i64 (i : Int) ∧ Hid (l.take i = k.take i) ∧ Hid (Old w wr)) (fun vi _ => l.length - (intOf vi).toNat)
    case atStart => exact ⟨0, Nat.zero_le _, rfl, rfl, Old.refl _⟩
    case round =>
      obtain ⟨i, hi, rfl, HT, O⟩ := hrel
      by_cases hl : i < l.length
      · have t3 : decide (i < l.length) = true := by simpa using hl
        have t3' : decide ((i : Int) < (l.length : Int)) = true := by simp; omega
        have hl2 : i < k.length := by have := LK.out; omega
        have q0 : (0 : Int) ≤ i := by omega
        have q1 : (i : Int) < l.length := by omega
        have q2 : (i : Int) < k.length := by omega
        have iw : wrap64 ((i : Int) + 1) = ((i + 1 : Nat) : Int) := by have := HN.out; unfold wrap64; omega
        obtain ⟨x, hx⟩ : ∃ x, l[i]? = some x := ⟨_, List.getElem?_eq_getElem hl⟩
        obtain ⟨y, hy⟩ : ∃ y, k[i]? = some y := ⟨_, List.getElem?_eq_getElem hl2⟩
        have NX : Hid (x = y → l.take (i + 1) = k.take (i + 1)) := fun e => by rw [List.take_add_one, List.take_add_one, HT.out, hx, hy, e]
        have ND : Hid (x ≠ y → decide (l = k) = false) := fun h => by
          apply decide_eq_false
          rintro rfl
          rw [hx] at hy
          exact h (Option.some.inj hy)
        obtain ⟨ab, ao, rfl, cx0, cx1, cx2⟩ := (HH.out.mono O.out) i x hx
        obtain ⟨bb, bo, rfl, cy0, cy1, cy2⟩ := (HG.out.mono O.out) i y hy
        simp only [openingV] at cx0 cx1 cx2 cy0 cy1 cy2
        have C := hide (fun (ww : World) (o : Old wr ww) => sameOpening_any x y (oa i) (ob i) (oc i) (od i) ww (HX.out i x hx).2 (((HX.out i x hx).1.mono O.out).mono o) (((HY.out i y hy).mono O.out).mono o))
        clear hx hy
        obtain ⟨bb3, hb3⟩ : ∃ bb3, bb3 = decide (x = y) := ⟨_, rfl⟩
        rw [← hb3] at C
        have OA := hide ((Old.of_alloc wr (.cells #[.int .i64 x.who, .bool x.own, .slice (oa i) x.vals.length (oc i)] 53)).alloc (.cells #[.int .i64 y.who, .bool y.own, .slice (ob i) y.vals.length (od i)] 53))
        have e10 := ((Row.new wr 53 [.int .i64 x.who, .bool x.own, .slice (oa i) x.vals.length (oc i)]).mono (Old.of_alloc _ (.cells #[.int .i64 y.who, .bool y.own, .slice (ob i) y.vals.length (od i)] 53)))
        have e11 := (rowN (w := wr.alloc (.cells #[.int .i64 x.who, .bool x.own, .slice (oa i) x.vals.length (oc i)] 53)) (g := wr.heap.size + 1) 53 [.int .i64 y.who, .bool y.own, .slice (ob i) y.vals.length (od i)] (by rw [World.size_alloc]))
        have c0 := e10.cell (i := 0) rfl
        have c1 := e10.cell (i := 1) rfl
        have c2 := e10.cell (i := 2) rfl
        have d0 := e11.cell (i := 0) rfl
        have d1 := e11.cell (i := 1) rfl
        have d2 := e11.cell (i := 2) rfl
        have ky0 := (Old.of_alloc wr (.cells #[.int .i64 x.who, .bool x.own, .slice (oa i) x.vals.length (oc i)] 53)).cell cy0
        have ky1 := (Old.of_alloc wr (.cells #[.int .i64 x.who, .bool x.own, .slice (oa i) x.vals.length (oc i)] 53)).cell cy1
        have ky2 := (Old.of_alloc wr (.cells #[.int .i64 x.who, .bool x.own, .slice (oa i) x.vals.length (oc i)] 53)).cell cy2
        clear e10 e11
        cases bb3
        · have E := hide (ND.out (of_decide_eq_false hb3.symm))
          clear NX ND hb3
          go_wp2_with fail
          refine (C.out _ OA.out).mono ?_
          rintro e w3 ⟨rfl, o3⟩
          have O3 := hide (O.out.trans (OA.out.trans o3))
          clear o3 C O OA
          go_wp2
          go_ret
          exact ⟨by rw [E.out]; rfl, O3.out⟩
        · have NY := hide (NX.out (of_decide_eq_true hb3.symm))
          clear NX ND hb3
          go_wp2_with fail
          refine (C.out _ OA.out).mono ?_
          rintro e w3 ⟨rfl, o3⟩
          have O3 := hide (O.out.trans (OA.out.trans o3))
          clear o3 C O OA
          go_wp2_with fail
          try rw [iw]
          exact ⟨⟨i + 1, by omega, by simp, NY, O3⟩, by simp [intOf]; omega⟩
      · obtain rfl : i = l.length := by omega
        have t3 : decide (l.length < l.length) = false := by simp
        have t3' : decide ((l.length : Int) < (l.length : Int)) = false := by simp
        have EX : Hid (decide (l = k) = true) := decide_eq_true (by
          have := HT.out
          rw [List.take_of_length_le (Nat.le_refl _), List.take_of_length_le (by rw [LK.out]; exact Nat.le_refl _)] at this
          exact this)
        go_wp2
        go_ret
        exact ⟨by rw [EX.out]; rfl, O.out⟩
  · have t0 : (l.length != k.length) = true := by simpa using hnm
    have t0' : ((l.length : Int) != (k.length : Int)) = true := by simp; omega
    have E : Hid (decide (l = k) = false) := decide_eq_false fun e => hnm (by rw [e])
    rw [E.out]
    go_enter Try.func41, Try.ntmps41
    go_wp2
    go_ret
    exact ⟨rfl, Old.refl _⟩

end Go.Proofs.Ytepchjpdfmleoaa

/-
  Package words: Same, Good.
-/
namespace Go.Proofs.Ytepchjpdfmleoaa
open Go.RowKit Cn Pn Wn
set_option linter.unusedVariables false

set_option maxRecDepth 100000 in
set_option maxHeartbeats 4000000 in
theorem same15_any (c d : Wd) (m k : WM) (w : World) (F : WordIn w c m) (G : WordIn w d k) :
    Calls Try.prog 17 #[.agg (wdc c m).toArray, .agg (wdc d k).toArray] w fun e w' => e = .returned (.bool (decide (c = d))) ∧ Old w w' := by
  have B00 := ((Bxs.nil w).alloc 29 (wdc c m) rfl).alloc 29 (wdc d k) (g := w.heap.size + 1) (by rw [World.size_alloc])
  obtain ⟨k1, f1, y1, cards1, parcels1, vector1, who1, openings1⟩ := c
  obtain ⟨k2, f2, y2, cards2, parcels2, vector2, who2, openings2⟩ := d
  have HF := hide F
  have HG := hide G
  have E : decide ((⟨k1, f1, y1, cards1, parcels1, vector1, who1, openings1⟩ : Wd) = ⟨k2, f2, y2, cards2, parcels2, vector2, who2, openings2⟩) = (decide (k1 = k2) && (decide (f1 = f2) && (decide (y1 = y2) && (decide (cards1 = cards2) && (decide (parcels1 = parcels2) && (decide (vector1 = vector2) && (decide (who1 = who2) && decide (openings1 = openings2)))))))) := Bool.eq_iff_iff.2 (by simp)
  rw [E]
  have C1 := hide (fun (wx : World) (o : Old w wx) => equalCards m.a1 k.a1 m.c1 k.c1 cards1 cards2 F.lens.1 wx (F.cardT.mono o) (G.cardT.mono o))
  have C2 := hide (fun (wx : World) (o : Old w wx) => equalParcels m.a2 k.a2 m.c2 k.c2 parcels1 parcels2 m.pa m.pc k.pa k.pc F.lens.2.1 wx (F.parcelT.mono o) (G.parcelT.mono o)
    (fun i x hx => ⟨((F.parcels i x hx).2).mono o, (F.parcelB x (List.mem_of_getElem? hx)).2.2⟩) (fun i x hx => ⟨((G.parcels i x hx).2).mono o, (G.parcelB x (List.mem_of_getElem? hx)).2.2.1⟩))
  have C3 := hide (fun (wx : World) (o : Old w wx) => equal32_any m.c3 k.c3 wx F.lens.2.2.1 rfl rfl (F.vector.mono o) (G.vector.mono o))
  have C4 := hide (fun (wx : World) (o : Old w wx) => equalI_any m.c4 k.c4 wx F.lens.2.2.2.1 rfl rfl (F.who.mono o) (G.who.mono o))
  have C5 := hide (fun (wx : World) (o : Old w wx) => equalOpenings m.a5 k.a5 m.c5 k.c5 openings1 openings2 m.oa m.oc k.oa k.oc F.lens.2.2.2.2 wx (F.openingT.mono o) (G.openingT.mono o)
    (fun i x hx => ⟨((F.openings i x hx).2).mono o, (F.openingB x (List.mem_of_getElem? hx)).2.2⟩) (fun i x hx => ((G.openings i x hx).2).mono o))
  have B0 := hide B00
  have O0 := hide B00.old
  clear F G E B00
  simp only at C1 C2 C3 C4 C5
  generalize decide (cards1 = cards2) = b1 at *
  generalize decide (parcels1 = parcels2) = b2 at *
  generalize decide (vector1 = vector2) = b3 at *
  generalize decide (who1 = who2) = b4 at *
  generalize decide (openings1 = openings2) = b5 at *
  unfold wdc at *
  by_cases h0 : k1 = k2
  · have t0 : (k1 == k2) = true := by simpa using h0
    rw [decide_eq_true h0, Bool.true_and]
    clear h0
    by_cases h1 : f1 = f2
    · have t1 : (f1 == f2) = true := by simpa using h1
      rw [decide_eq_true h1, Bool.true_and]
      clear h1
      by_cases h2 : y1 = y2
      · have t2 : (y1 == y2) = true := by simpa using h2
        rw [decide_eq_true h2, Bool.true_and]
        clear h2
        go_enter Try.func17, Try.ntmps17
        go_wp2_with fail
        refine (C1.out _ B0.out.old).mono ?_
        rintro e w1 ⟨rfl, o1⟩
        have B1 := hide (B0.out.mono o1)
        have O1 := hide B1.out.old
        clear o1 C1 B0
        cases b1
        · go_wp2
          go_ret
          exact ⟨by simp, O1.out⟩
        ·
          have x2 := (B1.out.row 0 rfl).cell (i := 4) rfl
          have z2 := (B1.out.row 1 rfl).cell (i := 4) rfl
          go_wp2_with fail
          refine (C2.out _ B1.out.old).mono ?_
          rintro e w2 ⟨rfl, o2⟩
          have B2 := hide (B1.out.mono o2)
          have O2 := hide B2.out.old
          clear o2 x2 z2 C2 B1
          cases b2
          · go_wp2
            go_ret
            exact ⟨by simp, O2.out⟩
          ·
            have x3 := (B2.out.row 0 rfl).cell (i := 5) rfl
            have z3 := (B2.out.row 1 rfl).cell (i := 5) rfl
            go_wp2_with fail
            refine (C3.out _ B2.out.old).mono ?_
            rintro e w3 ⟨rfl, o3⟩
            have B3 := hide (B2.out.mono o3)
            have O3 := hide B3.out.old
            clear o3 x3 z3 C3 B2
            cases b3
            · go_wp2
              go_ret
              exact ⟨by simp, O3.out⟩
            ·
              have x4 := (B3.out.row 0 rfl).cell (i := 6) rfl
              have z4 := (B3.out.row 1 rfl).cell (i := 6) rfl
              go_wp2_with fail
              refine (C4.out _ B3.out.old).mono ?_
              rintro e w4 ⟨rfl, o4⟩
              have B4 := hide (B3.out.mono o4)
              have O4 := hide B4.out.old
              clear o4 x4 z4 C4 B3
              cases b4
              · go_wp2
                go_ret
                exact ⟨by simp, O4.out⟩
              ·
                have x5 := (B4.out.row 0 rfl).cell (i := 7) rfl
                have z5 := (B4.out.row 1 rfl).cell (i := 7) rfl
                go_wp2_with fail
                refine (C5.out _ B4.out.old).mono ?_
                rintro e w5 ⟨rfl, o5⟩
                have B5 := hide (B4.out.mono o5)
                have O5 := hide B5.out.old
                clear o5 x5 z5 C5 B4
                go_wp2
                go_ret
                exact ⟨by simp, O5.out⟩
      · have t2 : (y1 == y2) = false := by simpa using h2
        rw [decide_eq_false h2, Bool.false_and]
        clear h2
        go_enter Try.func17, Try.ntmps17
        go_wp2
        go_ret
        exact ⟨by simp, O0.out⟩
    · have t1 : (f1 == f2) = false := by simpa using h1
      rw [decide_eq_false h1, Bool.false_and]
      clear h1
      go_enter Try.func17, Try.ntmps17
      go_wp2
      go_ret
      exact ⟨by simp, O0.out⟩
  · have t0 : (k1 == k2) = false := by simpa using h0
    rw [decide_eq_false h0, Bool.false_and]
    clear h0
    go_enter Try.func17, Try.ntmps17
    go_wp2
    go_ret
    exact ⟨by simp, O0.out⟩

namespace Wn
def zeroW : Wd := ⟨0, 0, 0, [], [], [], [], []⟩
theorem donB_nil : donB [] = true := rfl
theorem whoB_zero {n : Int} (h : whoB n = true) : n ≠ 0 := by
  unfold whoB at h
  simp only [Bool.and_eq_true, decide_eq_true_eq] at h
  omega
theorem good_no {c : Wd} (h : allN c ≠ hasN c) : goodB c = false := by
  unfold goodB
  rw [decide_eq_true h]
  simp
theorem all_pcB (l : List Parcel) : l.all pcB = true ∨ l.all pcB = false := by cases l.all pcB <;> simp
theorem good_eq (c : Wd) : (fromB c && (ownB c && decide (otW c = zeroW))) = goodB c := by
  obtain ⟨kd, frm, why, cards, parcels, vector, who, openings⟩ := c
  by_cases h : kd = 1 ∨ kd = 2 ∨ kd = 3 ∨ kd = 4 ∨ kd = 5 ∨ kd = 6 ∨ kd = 7 ∨ kd = 8
  · by_cases hA : allN ⟨kd, frm, why, cards, parcels, vector, who, openings⟩ = hasN ⟨kd, frm, why, cards, parcels, vector, who, openings⟩
    · rcases h with rfl | rfl | rfl | rfl | rfl | rfl | rfl | rfl
      · simp only [allN, hasN] at hA
        simp at hA
        obtain rfl : parcels = [] := by first | exact List.eq_nil_of_length_eq_zero (by omega) | simp_all
        obtain rfl : vector = [] := by first | exact List.eq_nil_of_length_eq_zero (by omega) | simp_all
        obtain rfl : who = [] := by first | exact List.eq_nil_of_length_eq_zero (by omega) | simp_all
        obtain rfl : openings = [] := by first | exact List.eq_nil_of_length_eq_zero (by omega) | simp_all
        clear hA
        have hw := @whoB_zero frm
        unfold fromB ownB otW zeroW goodB wardenB
        rw [Bool.eq_iff_iff]
        simp [allN, hasN, donB_nil, pcL]
        try grind
      · simp only [allN, hasN] at hA
        simp at hA
        obtain rfl : parcels = [] := by first | exact List.eq_nil_of_length_eq_zero (by omega) | simp_all
        obtain rfl : vector = [] := by first | exact List.eq_nil_of_length_eq_zero (by omega) | simp_all
        obtain rfl : who = [] := by first | exact List.eq_nil_of_length_eq_zero (by omega) | simp_all
        obtain rfl : openings = [] := by first | exact List.eq_nil_of_length_eq_zero (by omega) | simp_all
        clear hA
        have hw := @whoB_zero frm
        unfold fromB ownB otW zeroW goodB wardenB
        rw [Bool.eq_iff_iff]
        simp [allN, hasN, donB_nil, pcL]
        try grind
      · simp only [allN, hasN] at hA
        simp at hA
        obtain rfl : cards = [] := by first | exact List.eq_nil_of_length_eq_zero (by omega) | simp_all
        obtain rfl : vector = [] := by first | exact List.eq_nil_of_length_eq_zero (by omega) | simp_all
        obtain rfl : who = [] := by first | exact List.eq_nil_of_length_eq_zero (by omega) | simp_all
        obtain rfl : openings = [] := by first | exact List.eq_nil_of_length_eq_zero (by omega) | simp_all
        clear hA
        have hw := @whoB_zero frm
        unfold fromB ownB otW zeroW goodB wardenB
        have e2 : ∀ f : Parcel → Bool, parcels.all f = true ↔ parcels.all f = true := fun _ => Iff.rfl
        clear e2
        generalize hbp : parcels.all pcB = bp
        rw [Bool.eq_iff_iff]
        simp [allN, hasN, donB_nil, pcL]
        try grind
      · simp only [allN, hasN] at hA
        simp at hA
        obtain rfl : cards = [] := by first | exact List.eq_nil_of_length_eq_zero (by omega) | simp_all
        obtain rfl : vector = [] := by first | exact List.eq_nil_of_length_eq_zero (by omega) | simp_all
        obtain rfl : who = [] := by first | exact List.eq_nil_of_length_eq_zero (by omega) | simp_all
        obtain rfl : openings = [] := by first | exact List.eq_nil_of_length_eq_zero (by omega) | simp_all
        clear hA
        have hw := @whoB_zero frm
        unfold fromB ownB otW zeroW goodB wardenB
        have e2 : ∀ f : Parcel → Bool, parcels.all f = true ↔ parcels.all f = true := fun _ => Iff.rfl
        clear e2
        generalize hbp : parcels.all pcB = bp
        rw [Bool.eq_iff_iff]
        simp [allN, hasN, donB_nil, pcL]
        try grind
      · simp only [allN, hasN] at hA
        simp at hA
        obtain rfl : cards = [] := by first | exact List.eq_nil_of_length_eq_zero (by omega) | simp_all
        obtain rfl : parcels = [] := by first | exact List.eq_nil_of_length_eq_zero (by omega) | simp_all
        obtain rfl : who = [] := by first | exact List.eq_nil_of_length_eq_zero (by omega) | simp_all
        obtain rfl : openings = [] := by first | exact List.eq_nil_of_length_eq_zero (by omega) | simp_all
        clear hA
        have hw := @whoB_zero frm
        unfold fromB ownB otW zeroW goodB wardenB
        rw [Bool.eq_iff_iff]
        simp [allN, hasN, donB_nil, pcL]
        try grind
      · simp only [allN, hasN] at hA
        simp at hA
        obtain rfl : cards = [] := by first | exact List.eq_nil_of_length_eq_zero (by omega) | simp_all
        obtain rfl : parcels = [] := by first | exact List.eq_nil_of_length_eq_zero (by omega) | simp_all
        obtain rfl : vector = [] := by first | exact List.eq_nil_of_length_eq_zero (by omega) | simp_all
        obtain rfl : openings = [] := by first | exact List.eq_nil_of_length_eq_zero (by omega) | simp_all
        clear hA
        have hw := @whoB_zero frm
        unfold fromB ownB otW zeroW goodB wardenB
        rw [Bool.eq_iff_iff]
        simp [allN, hasN, donB_nil, pcL]
        try grind
      · simp only [allN, hasN] at hA
        simp at hA
        obtain rfl : cards = [] := by first | exact List.eq_nil_of_length_eq_zero (by omega) | simp_all
        obtain rfl : parcels = [] := by first | exact List.eq_nil_of_length_eq_zero (by omega) | simp_all
        obtain rfl : vector = [] := by first | exact List.eq_nil_of_length_eq_zero (by omega) | simp_all
        obtain rfl : who = [] := by first | exact List.eq_nil_of_length_eq_zero (by omega) | simp_all
        clear hA
        have hw := @whoB_zero frm
        unfold fromB ownB otW zeroW goodB wardenB
        generalize hbo : openings.all ogB = bo
        rw [Bool.eq_iff_iff]
        simp [allN, hasN, donB_nil, pcL]
        try grind
      · simp only [allN, hasN] at hA
        simp at hA
        obtain rfl : cards = [] := by first | exact List.eq_nil_of_length_eq_zero (by omega) | simp_all
        obtain rfl : parcels = [] := by first | exact List.eq_nil_of_length_eq_zero (by omega) | simp_all
        obtain rfl : vector = [] := by first | exact List.eq_nil_of_length_eq_zero (by omega) | simp_all
        obtain rfl : who = [] := by first | exact List.eq_nil_of_length_eq_zero (by omega) | simp_all
        obtain rfl : openings = [] := by first | exact List.eq_nil_of_length_eq_zero (by omega) | simp_all
        clear hA
        have hw := @whoB_zero frm
        unfold fromB ownB otW zeroW goodB wardenB
        rw [Bool.eq_iff_iff]
        simp [allN, hasN, donB_nil, pcL]
        try grind
    · have hO : otW ⟨kd, frm, why, cards, parcels, vector, who, openings⟩ ≠ zeroW := by
        intro e
        apply hA
        rcases h with rfl | rfl | rfl | rfl | rfl | rfl | rfl | rfl <;>
          (simp [otW, zeroW] at e; simp [allN, hasN, e])
      rw [decide_eq_false hO, good_no hA]
      simp
  · have E : ownB ⟨kd, frm, why, cards, parcels, vector, who, openings⟩ = false := by
      unfold ownB
      simp only [if_neg (show ¬ kd = 8 by omega), if_neg (show ¬ kd = 1 by omega), if_neg (show ¬ kd = 2 by omega), if_neg (show ¬ kd = 3 by omega), if_neg (show ¬ kd = 4 by omega), if_neg (show ¬ kd = 5 by omega), if_neg (show ¬ kd = 6 by omega), if_neg (show ¬ kd = 7 by omega)]
    rw [E]
    unfold goodB
    rw [if_pos (show kd < 1 ∨ 8 < kd by omega)]
    simp
end Wn

def zeroM : WM := ⟨none, 0, none, 0, none, 0, none, 0, none, 0, fun _ => none, fun _ => 0, fun _ => none, fun _ => 0⟩
theorem zeroIn (w : World) : WordIn w zeroW zeroM := by
  have z0 : B64 0 := by unfold B64; omega
  refine ⟨⟨z0, z0, z0⟩, ?_, ?_, ?_, ?_, ?_, ?_, Rd.nil _, ?_, Rd.nil _, ?_, ?_, ?_⟩ <;> simp [zeroW, zeroM]

set_option maxRecDepth 100000 in
set_option maxHeartbeats 2000000 in
theorem good15_any (c : Wd) (m : WM) (w : World) (F : WordIn w c m) :
    Calls Try.prog 10 #[.agg (wdc c m).toArray] w fun e w' => e = .returned (.bool (goodB c)) ∧ Old w w' := by
  have R := Row.new w 29 (wdc c m)
  have O0 := hide (Old.of_alloc w (.cells (wdc c m).toArray 29))
  have HR := hide R
  rw [← good_eq]
  have C1 := hide (fun wr : World => goodFrom_any c m wr)
  have C2 := hide (fun (wr : World) (o : Old w wr) => goodOwn_any c m wr (F.mono o))
  have C3 := hide (fun wr : World => others_any c m wr)
  have C4 := hide (fun (wr : World) (o : Old w wr) => same15_any (otW c) zeroW (otM c.kind m) zeroM wr (otIn (F.mono o)) (zeroIn wr))
  clear F R
  generalize fromB c = b1 at *
  generalize ownB c = b2 at *
  generalize decide (otW c = zeroW) = b3 at *
  generalize otW c = oc at *
  generalize otM c.kind m = om at *
  unfold wdc at *
  go_enter Try.func10, Try.ntmps10
  go_wp2_with fail
  refine (C1.out _).mono ?_
  rintro e w1 ⟨rfl, o1⟩
  have R1 := hide (HR.out.mono o1)
  have O1 := hide (O0.out.trans o1)
  clear o1 HR O0
  cases b1
  · go_wp2
    go_ret
    exact ⟨by simp, O1.out⟩
  · have d0 := R1.out.cell (i := 0) rfl
    have d1 := R1.out.cell (i := 1) rfl
    have d2 := R1.out.cell (i := 2) rfl
    have d3 := R1.out.cell (i := 3) rfl
    have d4 := R1.out.cell (i := 4) rfl
    have d5 := R1.out.cell (i := 5) rfl
    have d6 := R1.out.cell (i := 6) rfl
    have d7 := R1.out.cell (i := 7) rfl
    go_wp2_with fail
    refine (C2.out _ O1.out).mono ?_
    rintro e w2 ⟨rfl, o2⟩
    have R2 := hide (R1.out.mono o2)
    have O2 := hide (O1.out.trans o2)
    clear o2 R1 O1 d0 d1 d2 d3 d4 d5 d6 d7
    cases b2
    · go_wp2
      go_ret
      exact ⟨by simp, O2.out⟩
    · have d0 := R2.out.cell (i := 0) rfl
      have d1 := R2.out.cell (i := 1) rfl
      have d2 := R2.out.cell (i := 2) rfl
      have d3 := R2.out.cell (i := 3) rfl
      have d4 := R2.out.cell (i := 4) rfl
      have d5 := R2.out.cell (i := 5) rfl
      have d6 := R2.out.cell (i := 6) rfl
      have d7 := R2.out.cell (i := 7) rfl
      go_wp2_with fail
      refine (C3.out _).mono ?_
      rintro e w3 ⟨rfl, o3⟩
      have O3 := hide (O2.out.trans o3)
      clear o3 R2 O2 d0 d1 d2 d3 d4 d5 d6 d7
      go_wp2_with fail
      refine (C4.out _ O3.out).mono ?_
      rintro e w4 ⟨rfl, o4⟩
      have O4 := hide (O3.out.trans o4)
      clear o4
      go_wp2
      go_ret
      exact ⟨by simp, O4.out⟩

end Go.Proofs.Ytepchjpdfmleoaa
