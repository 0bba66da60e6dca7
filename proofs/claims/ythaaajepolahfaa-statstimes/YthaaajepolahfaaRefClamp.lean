/-
  The document's own Sound, Bits, Clamp of plans (offertoryref09): what they answer.
-/
import Derived.Test.YthaaajepolahfaaProg
import Derived.Test.YthaaajepolahfaaPlanN
namespace Go.Proofs.Ythaaajepolahfaa
open Go.RowKit Pn
set_option linter.unusedVariables false

/-- A plan in a box of the call's own. -/
structure Bx (w : World) (g : Nat) (lo hi mo : Int) (a : Option Addr) (n cap : Nat) (es : List Int) (wr : World) : Prop where
  row : Row wr g 24 [.int .i64 lo, .int .i64 hi, .int .i64 mo, .slice a n cap]
  fit : Fit wr lo hi mo a n es
  old : Old w wr
theorem Bx.start {w : World} {lo hi mo : Int} {a : Option Addr} {n : Nat} {es : List Int} (cap : Nat) (F : Fit w lo hi mo a n es) : Bx w w.heap.size lo hi mo a n cap es (w.alloc (.cells #[.int .i64 lo, .int .i64 hi, .int .i64 mo, .slice a n cap] 24)) :=
  ⟨Row.new _ _ _, F.mono (Old.of_alloc _ _), Old.of_alloc _ _⟩
theorem Bx.mono {w : World} {g : Nat} {lo hi mo : Int} {a : Option Addr} {n cap : Nat} {es : List Int} {wr w' : World} (h : Bx w g lo hi mo a n cap es wr) (o : Old wr w') : Bx w g lo hi mo a n cap es w' := ⟨h.row.mono o, h.fit.mono o, h.old.trans o⟩

section
variable {w : World} {g : Nat} {lo hi mo : Int} {a : Option Addr} {n cap : Nat} {es : List Int} {wr : World}
theorem Bx.c0 (h : Bx w g lo hi mo a n cap es wr) : wr.cell? ⟨g, 0, none⟩ = some (.int .i64 lo) := h.row.cell (i := 0) rfl
theorem Bx.c1 (h : Bx w g lo hi mo a n cap es wr) : wr.cell? ⟨g, 1, none⟩ = some (.int .i64 hi) := h.row.cell (i := 1) rfl
theorem Bx.c2 (h : Bx w g lo hi mo a n cap es wr) : wr.cell? ⟨g, 2, none⟩ = some (.int .i64 mo) := h.row.cell (i := 2) rfl
theorem Bx.c3 (h : Bx w g lo hi mo a n cap es wr) : wr.cell? ⟨g, 3, none⟩ = some (.slice a n cap) := h.row.cell (i := 3) rfl
end

theorem refClamp10_any {lo hi mo : Int} {a : Option Addr} {n : Nat} (cap : Nat) (x : Int) (w : World) :
    Calls Try.prog 30 #[pv lo hi mo a n cap, .int .i64 x] w fun e w' => e = .returned (.int .i64 (clampZ lo hi x)) ∧ Old w w' := by
  unfold pv
  have O := Old.of_alloc w (.cells #[.int .i64 lo, .int .i64 hi, .int .i64 mo, .slice a n cap] 24)
  by_cases h1 : x < lo
  · have e : clampZ lo hi x = lo := by unfold clampZ; rw [if_pos h1]
    rw [e]
    go_enter Try.func30, Try.ntmps30
    go_wp2
    go_ret
    exact ⟨rfl, O⟩
  · by_cases h2 : hi < x
    · have e : clampZ lo hi x = hi := by unfold clampZ; rw [if_neg h1, if_pos h2]
      rw [e]
      go_enter Try.func30, Try.ntmps30
      go_wp2
      go_ret
      exact ⟨rfl, O⟩
    · have e : clampZ lo hi x = x := by unfold clampZ; rw [if_neg h1, if_neg h2]
      rw [e]
      go_enter Try.func30, Try.ntmps30
      go_wp2
      go_ret
      exact ⟨rfl, O⟩

set_option maxHeartbeats 1000000 in
theorem refSound10_any {lo hi mo : Int} {a : Option Addr} {n : Nat} {es : List Int} (cap : Nat) (w : World) (F : Fit w lo hi mo a n es) :
    Calls Try.prog 9 #[pv lo hi mo a n cap] w fun e w' => e = .returned (.int .i64 (soundZ lo hi mo es)) ∧ Old w w' := by
  have B0 := hide (Bx.start cap F)
  unfold pv
  obtain ⟨f1, f2⟩ := F.lo
  obtain ⟨f3, f4⟩ := F.hi
  have fl := F.len
  clear F
  by_cases h1 : lo < -1099511627776
  · have E := hide (sound_4 (mo := mo) (es := es) (show bad1 lo hi from Or.inl h1))
    rw [E.out]
    go_enter Try.func9, Try.ntmps9
    go_wp2
    go_ret
    exact ⟨rfl, B0.out.old⟩
  by_cases h2 : 1099511627776 < hi
  · have E := hide (sound_4 (mo := mo) (es := es) (show bad1 lo hi from Or.inr (Or.inl h2)))
    rw [E.out]
    go_enter Try.func9, Try.ntmps9
    go_wp2
    go_ret
    exact ⟨rfl, B0.out.old⟩
  by_cases h3 : hi < lo
  · have E := hide (sound_4 (mo := mo) (es := es) (show bad1 lo hi from Or.inr (Or.inr (Or.inl h3))))
    rw [E.out]
    go_enter Try.func9, Try.ntmps9
    go_wp2
    go_ret
    exact ⟨rfl, B0.out.old⟩
  by_cases h4 : 1099511627776 ≤ hi - lo
  · have E := hide (sound_4 (mo := mo) (es := es) (show bad1 lo hi from Or.inr (Or.inr (Or.inr h4))))
    rw [E.out]
    go_enter Try.func9, Try.ntmps9
    go_wp2
    go_ret
    exact ⟨rfl, B0.out.old⟩
  have N1 : Hid (¬ bad1 lo hi) := by rintro (h | h | h | h) <;> contradiction
  by_cases h5 : mo < 1
  · have E := hide (sound_9 (es := es) N1.out (show bad2 mo from Or.inl h5))
    rw [E.out]
    go_enter Try.func9, Try.ntmps9
    go_wp2
    go_ret
    exact ⟨rfl, B0.out.old⟩
  by_cases h6 : 65536 < mo
  · have E := hide (sound_9 (es := es) N1.out (show bad2 mo from Or.inr h6))
    rw [E.out]
    go_enter Try.func9, Try.ntmps9
    go_wp2
    go_ret
    exact ⟨rfl, B0.out.old⟩
  have N2 : Hid (¬ bad2 mo) := by rintro (h | h) <;> contradiction
  by_cases h7 : 64 < n
  · have E := hide (sound_10 N1.out N2.out (show bad3 es from Or.inl (by omega)))
    rw [E.out]
    have t7 : decide ((64 : Int) < n) = true := by simp; omega
    go_enter Try.func9, Try.ntmps9
    go_wp2
    go_ret
    exact ⟨rfl, B0.out.old⟩
  have t7 : decide ((64 : Int) < n) = false := by simp; omega
  go_enter Try.func9, Try.ntmps9
  go_wp2_with fail
  have HN := hide (And.intro h7 fl)
  clear fl h1 h2 h3 h4 h5 h6 t7 f1 f2 f3 f4
  go_loopw [4] (fun vi wr => ∃ k : Nat, vi = .int .i64 ((k : Int) + 1) ∧ k ≤ 64 ∧ Hid (risTo es (k + 1)) ∧ Hid (Bx w w.heap.size lo hi mo a n cap es wr)) (fun vi _ => (65 - intOf vi).toNat)
  case atStart => exact ⟨0, by simp, by omega, risTo_one es, B0⟩
  case round =>
    clear B0
    obtain ⟨k, rfl, hk, RT, R⟩ := hrel
    have c3 := R.out.c3
    by_cases hl : k + 1 < n
    · have t1 : decide ((k : Int) + 1 < n) = true := by simp; omega
      obtain ⟨b, off, rfl, ca⟩ := rd_int R.out.fit.rd (i := k) (by rw [HN.out.2]; omega)
      obtain ⟨b', off', e', cb⟩ := rd_int R.out.fit.rd (i := k + 1) (by rw [HN.out.2]; omega)
      obtain ⟨rfl, rfl⟩ : b = b' ∧ off = off' := by simpa using e'
      have q0 : (0 : Int) ≤ k := by omega
      have q1 : (k : Int) < n := by omega
      have q2 : (0 : Int) ≤ (k : Int) + 1 := by omega
      have q3 : (k : Int) + 1 < n := by omega
      have RX := hide (show es.getD k 0 < es.getD (k + 1) 0 → risTo es (k + 1 + 1) from fun h => risTo_next RT.out (by omega) (by simpa using h))
      have RN := hide (show ¬ es.getD k 0 < es.getD (k + 1) 0 → soundZ lo hi mo es = 10 from fun h => sound_10 N1.out N2.out (Or.inr (risTo_not (i := k + 1) (by omega) (by rw [HN.out.2]; omega) (by simpa using h))))
      have HK := hide hl
      clear hl e' RT
      revert ca cb RX RN
      generalize es.getD k 0 = x
      generalize es.getD (k + 1) 0 = y
      intro ca cb RX RN
      by_cases hxy : x < y
      · have t2 : decide (y ≤ x) = false := by simp; omega
        have R3 := hide (R.out.mono (Old.of_drewN _ 1))
        go_wp2_with fail
        go_quiet (fail)
        go_wp2
        go_roundw
        case rel => exact ⟨k + 1, by simp, by have := HK.out; have := HN.out.1; omega, RX.out hxy, R.out.mono (Old.of_drewN _ _)⟩
        case measure => simp [intOf]; omega
      · have t2 : decide (y ≤ x) = true := by simp; omega
        have E := hide (RN.out hxy)
        go_wp2_with fail
        go_quiet (fail)
        go_wp2
        go_ret
        exact ⟨by rw [E.out]; rfl, R.out.old.drewN _⟩
    · have t1 : decide ((k : Int) + 1 < n) = false := by simp; omega
      have E : Hid (soundZ lo hi mo es = 0) := sound_0 N1.out N2.out (by
        rintro (h | h)
        · have := HN.out.1; have := HN.out.2; omega
        · exact h fun j hj => RT.out j (by rw [HN.out.2] at hj; omega))
      go_wp2
      go_ret
      exact ⟨by rw [E.out]; rfl, R.out.old⟩

set_option maxHeartbeats 1000000 in
theorem refBits10_any {lo hi mo : Int} {a : Option Addr} {n : Nat} (cap : Nat) (w : World) (h1 : lo ≤ hi) (h2 : hi - lo < 1099511627776) (h3 : -1099511627776 ≤ lo) (h4 : hi ≤ 1099511627776) :
    Calls Try.prog 36 #[pv lo hi mo a n cap] w fun e w' => e = .returned (.int .i64 ((bitsN (hi - lo).toNat : Nat) : Int)) ∧ Old w w' := by
  have R := hide (Row.new w 24 [.int .i64 lo, .int .i64 hi, .int .i64 mo, .slice a n cap])
  have O := hide (Old.of_alloc w (.cells #[.int .i64 lo, .int .i64 hi, .int .i64 mo, .slice a n cap] 24))
  unfold pv
  obtain ⟨d, hd⟩ : ∃ d : Nat, hi - lo = d := ⟨(hi - lo).toNat, by omega⟩
  have HB := hide (bits_40 (d := d) (by omega))
  rw [show (hi - lo).toNat = d by omega]
  have b0 : (0 : Int) ≤ d := by omega
  have b1 : (d : Int) < 1099511627776 := by omega
  clear h1 h2 h3 h4
  go_enter Try.func36, Try.ntmps36
  go_wp2_with fail
  revert R O
  generalize w.alloc (.cells #[.int .i64 lo, .int .i64 hi, .int .i64 mo, .slice a n cap] 24) = wb
  intro R O
  have c0 := R.out.cell (i := 0) rfl
  have c1 := R.out.cell (i := 1) rfl
  go_loop [3] (fun vi => ∃ m : Nat, vi = .int .i64 (m : Int) ∧ 1 ≤ m ∧ m ≤ 40 ∧ Hid (m ≤ bitsN d)) (fun vi => (41 - intOf vi).toNat)
  case atStart => exact ⟨1, by simp, by omega, by omega, HB.out.1⟩
  case round =>
    obtain ⟨m, rfl, m1, m2, M⟩ := hrel
    obtain ⟨z, hz⟩ : ∃ z : Nat, z = 2 ^ m := ⟨_, rfl⟩
    have zl : z ≤ 1099511627776 := by rw [hz]; exact Nat.pow_le_pow_right (n := 2) (by omega) m2
    have zw : wrap64 (2 ^ m) = (z : Int) := by
      rw [show (2 : Int) ^ m = (z : Int) by rw [hz]; simp]
      unfold wrap64
      omega
    have w1 : IntKind.u64.wrap (m : Int) = m := by show (m : Int) % 18446744073709551616 = m; omega
    have HM := hide (And.intro m1 m2)
    have HZ := hide hz
    have k0 : (0 : Int) ≤ m := by omega
    have k1 : (m : Int) ≤ 40 := by omega
    clear m1 m2 hz zl
    by_cases h : z ≤ d
    · have t : decide (z ≤ d) = true := by simpa using h
      have NX : Hid (m + 1 ≤ bitsN d) := by
        have h1 := M.out
        rcases Nat.lt_or_ge m (bitsN d) with h' | h'
        · exact h'
        · exfalso
          have e : m = bitsN d := Nat.le_antisymm h1 h'
          have := bits_lt d
          rw [← e, ← HZ.out] at this
          omega
      clear h
      go_wp2
      refine ⟨⟨m + 1, by simp, by omega, ?_, NX⟩, by simp [intOf]; have := HM.out; omega⟩
      have h1 := NX.out
      have h2 := HB.out.2
      omega
    · have t : decide (z ≤ d) = false := by simpa using h
      have E := hide (bits_end HM.out.1 M.out (by rw [← HZ.out]; omega))
      clear h
      go_wp2
      go_ret
      exact ⟨by rw [← E.out]; rfl, O.out⟩
end Go.Proofs.Ythaaajepolahfaa
