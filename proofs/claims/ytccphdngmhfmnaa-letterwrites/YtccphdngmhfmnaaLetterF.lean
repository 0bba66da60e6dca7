/-
  Package letter: what a Paper's Small, Great, Bytes and Blank do.
-/
import Derived.Test.YtccphdngmhfmnaaLetterE
import Derived.Test.YtccphdngmhfmnaaAwake14
namespace Go.Proofs.Ytccphdngmhfmnaa
open Go.RowKit Cn
set_option linter.unusedVariables false

theorem PapD.mono {v : Value} {st : Option (List Nat)} {m : Nat} {w w' : World} {O : Nat → Prop} (h : PapD v st m w O) (o : Old w w') : PapD v st m w' O := h.stay (fun i hi => o.block i (h.isIn i hi)) o.size
theorem Turns.of_old {O : Nat → Prop} {w w1 w' : World} {Q : World → (Nat → Prop) → Prop} (o : Old w w1) (t : Turns O w1 w' Q) : Turns O w w' Q := by
  obtain ⟨O', k, hO, q⟩ := t
  refine ⟨O', (Kept.of_old o).trans k, fun i hi => ?_, q⟩
  rcases hO i hi with h | h
  · exact .inl h
  · exact .inr (Nat.le_trans o.size h)
theorem Turns.trans {O : Nat → Prop} {w w1 w' : World} {Q Q' : World → (Nat → Prop) → Prop} (t : Turns O w w1 Q) (h : ∀ O', Q w1 O' → Turns O' w1 w' Q') : Turns O w w' Q' := by
  obtain ⟨O1, k1, h1, q1⟩ := t
  obtain ⟨O2, k2, h2, q2⟩ := h O1 q1
  refine ⟨O2, ⟨k2.os.trans k1.os, k2.tape.trans k1.tape, k2.output.trans k1.output, Nat.le_trans k1.size k2.size, fun i hi hn => ?_⟩, fun i hi => ?_, q2⟩
  · exact (k2.block i (Nat.lt_of_lt_of_le hi k1.size) (fun ho => by
      rcases h1 i ho with h | h
      · exact hn h
      · omega)).trans (k1.block i hi hn)
  · rcases h2 i hi with h | h
    · exact h1 i h
    · exact .inr (Nat.le_trans k1.size h)
theorem Kept.rd {O : Nat → Prop} {w w' : World} {a : Option Addr} {vs : List Value} (h : Kept O w w') (rd : Rd w a vs) (hn : ∀ x, 0 < vs.length → a = some x → ¬ O x.block) : Rd w' a vs := by
  intro i v hv
  obtain ⟨b, off, rfl, hc⟩ := rd i v hv
  refine ⟨b, off, rfl, ?_⟩
  rw [← hc]
  exact World.cell?_of_block (h.block b (World.block_lt_of_cell? w _ hc) (hn _ (by have := (List.getElem?_eq_some_iff.1 hv).1; omega) rfl))

theorem smallP_add (st : Option (List Nat)) {n : Nat} (h : n < 4294967296) : addP st (le4 n) = smallP st (n : Int) := by
  unfold addP smallP
  rw [if_pos (by omega), Int.toNat_natCast]

set_option maxHeartbeats 2000000 in
theorem small_any (v : Value) (st : Option (List Nat)) (m m' : Nat) (O : Nat → Prop) (n : Int) (w : World) (h : PapD v st m w O) (hn : -9223372036854775808 ≤ n ∧ n ≤ 9223372036854775807) :
    Calls Try.prog 10 #[v, .int .i64 n] w fun e w' => e = .returned v ∧ Turns O w w' (PapD v (smallP st n) m') := by
  by_cases hr : 0 ≤ n ∧ n < 4294967296
  · obtain ⟨k, rfl⟩ : ∃ k : Nat, n = (k : Int) := ⟨n.toNat, by omega⟩
    have kl : k < 4294967296 := by omega
    have HP := hide h
    obtain ⟨b, fv, s, er, rfl, hO, P⟩ := h
    have e0 : IntKind.u64.wrap (k : Int) = k := by show (k : Int) % 18446744073709551616 = k; omega
    have t1 : decide ((4294967295 : Int) < (k : Int)) = false := decide_eq_false (by omega)
    have t1' : decide ((k : Int) > 4294967295) = false := t1
    have t2 : decide (4294967295 < k) = false := decide_eq_false (by omega)
    have C1 := hide (lowest_any k 4 (by omega) w)
    rw [leB_four] at C1
    have C1' : Hid (Calls Try.prog 30 #[.int .u64 (k : Int), .int .i64 4] w fun e w' => ∃ g, e = .returned (.slice (some ⟨g, 0, none⟩) 4 4) ∧ w.heap.size ≤ g ∧ Row w' g 5 (nums .u8 (le4 k)) ∧ Old w w') := C1
    have SA := hide (smallP_add st kl)
    clear C1 hn hr P hO
    go_enter Try.func10, Try.ntmps10
    go_wp2_with fail
    refine C1'.out.mono ?_
    rintro e w1 ⟨g, rfl, lg, R, o⟩
    have hw := HP.out.isIn
    have C2 := hide (add_any _ st m m' O (some ⟨g, 0, none⟩) 4 4 (le4 k) w1 (HP.out.mono o) (By14.row (rest := []) (by rw [List.append_nil]; exact R) rfl (Nat.le_refl _) (by omega) (le4_lt k)) (by omega) (fun x _ hx hO => by
      cases hx
      have := hw _ hO
      simp at this
      omega))
    rw [SA.out] at C2
    have OO := hide o
    clear R lg hw o C1'
    go_wp2_with fail
    refine C2.out.mono ?_
    rintro e w2 ⟨rfl, T⟩
    have TT := hide (Turns.of_old OO.out T)
    clear T C2
    go_wp2
    go_ret
    exact ⟨rfl, TT.out⟩
  · obtain ⟨b, fv, s, er, rfl, hO, P⟩ := h
    obtain ⟨z, hz⟩ : ∃ z, z = n % 18446744073709551616 := ⟨_, rfl⟩
    have e0 : IntKind.u64.wrap n = z := hz.symm
    have t1 : decide ((4294967295 : Int) < z) = true := decide_eq_true (by omega)
    have t1' : decide (z > 4294967295) = true := t1
    have SN : smallP st n = none := by unfold smallP; rw [if_neg hr]
    rw [SN]
    have C1 := hide (refuseP_any b fv er 4 w P.row)
    have HP := hide P
    have HO := hide hO
    clear P hO SN hz hn hr
    go_enter Try.func10, Try.ntmps10
    go_wp2_with fail
    refine C1.out.mono ?_
    rintro e w1 ⟨rfl, g1, R1⟩
    have T := PapD.gone (m := m') HP.out HO.out g1 R1 (.inr (.inl ⟨rfl, rfl, rfl⟩))
    clear C1 g1 R1
    go_wp2
    go_ret
    exact ⟨rfl, T⟩

set_option maxHeartbeats 2000000 in
theorem great_any (v : Value) (st : Option (List Nat)) (m m' : Nat) (O : Nat → Prop) (k : Nat) (w : World) (h : PapD v st m w O) (hk : k < 18446744073709551616) :
    Calls Try.prog 12 #[v, .int .u64 (k : Nat)] w fun e w' => e = .returned v ∧ Turns O w w' (PapD v (greatP st k) m') := by
  have HP := hide h
  clear h
  have C1 := hide (lowest_any k 8 (by omega) w)
  rw [leB_eight] at C1
  have C1' : Hid (Calls Try.prog 30 #[.int .u64 (k : Int), .int .i64 8] w fun e w' => ∃ g, e = .returned (.slice (some ⟨g, 0, none⟩) 8 8) ∧ w.heap.size ≤ g ∧ Row w' g 5 (nums .u8 (le8 k)) ∧ Old w w') := C1
  clear C1 hk
  go_enter Try.func12, Try.ntmps12
  go_wp2_with fail
  refine C1'.out.mono ?_
  rintro e w1 ⟨g, rfl, lg, R, o⟩
  have hw := HP.out.isIn
  have C2 := hide (add_any _ st m m' O (some ⟨g, 0, none⟩) 8 8 (le8 k) w1 (HP.out.mono o) (By14.row (rest := []) (by rw [List.append_nil]; exact R) rfl (Nat.le_refl _) (by omega) (le8_lt k)) (by omega) (fun x _ hx hO => by
    cases hx
    have := hw _ hO
    simp at this
    omega))
  have OO := hide o
  clear R lg hw o C1'
  go_wp2_with fail
  refine C2.out.mono ?_
  rintro e w2 ⟨rfl, T⟩
  have TT := hide (Turns.of_old OO.out T)
  clear T C2
  go_wp2
  go_ret
  exact ⟨rfl, TT.out⟩

theorem bytesP_add (st : Option (List Nat)) {xs : List Nat} {n : Nat} (hl : xs.length = n) (h : n < 4294967296) : addP (smallP st (n : Int)) xs = bytesP st xs := by
  rw [← smallP_add st h]
  unfold addP bytesP fieldB
  rw [hl]
  cases st <;> simp

set_option maxHeartbeats 2000000 in
theorem bytes_any (v : Value) (st : Option (List Nat)) (m m' : Nat) (O : Nat → Prop) (a : Option Addr) (n cap : Nat) (xs : List Nat) (w : World) (h : PapD v st m w O) (Y : By14 w a n cap xs) (hn : n ≤ 100000) (ha : ∀ x, 0 < xs.length → a = some x → ¬ O x.block) :
    Calls Try.prog 14 #[v, .slice a n cap] w fun e w' => e = .returned v ∧ Turns O w w' (PapD v (bytesP st xs) m') := by
  have BA := hide (bytesP_add st (n := n) Y.len (by omega))
  have C1 := hide (small_any v st m m' O n w h (by omega))
  have HY := hide Y
  have HA := hide ha
  clear Y ha h
  go_enter Try.func14, Try.ntmps14
  go_wp2_with fail
  refine C1.out.mono ?_
  rintro e w1 ⟨rfl, T1⟩
  have TT := hide T1
  obtain ⟨O1, k1, h1, P1⟩ := T1
  have Y1 : By14 w1 a n cap xs := ⟨HY.out.len, HY.out.room, HY.out.small, HY.out.each, k1.rd HY.out.rd (fun x hx e => HA.out x (by rwa [nums_length] at hx) e)⟩
  have hb : ∀ x, 0 < xs.length → a = some x → ¬ O1 x.block := by
    intro x hx e hO
    rcases h1 _ hO with h | h
    · exact HA.out x hx e h
    · have := HY.out.rd.lt e (by rw [nums_length]; exact hx)
      omega
  have C2 := hide (add_any v (smallP st n) m' m' O1 a n cap xs w1 P1 Y1 hn hb)
  rw [BA.out] at C2
  have K1 := hide k1
  have H1 := hide h1
  clear k1 h1 P1 Y1 hb C1
  go_wp2_with fail
  refine C2.out.mono ?_
  rintro e w2 ⟨rfl, T2⟩
  have HT := hide T2
  clear C2 T2
  go_wp2
  go_ret
  refine ⟨rfl, ?_⟩
  obtain ⟨O2, k2, h2, q2⟩ := HT.out
  refine ⟨O2, ⟨k2.os.trans K1.out.os, k2.tape.trans K1.out.tape, k2.output.trans K1.out.output, Nat.le_trans K1.out.size k2.size, fun i hi hn => ?_⟩, fun i hi => ?_, q2⟩
  · exact (k2.block i (Nat.lt_of_lt_of_le hi K1.out.size) (fun ho => by
      rcases H1.out i ho with h | h
      · exact hn h
      · omega)).trans (K1.out.block i hi hn)
  · rcases h2 i hi with h | h
    · exact H1.out i h
    · exact .inr (Nat.le_trans K1.out.size h)

set_option maxHeartbeats 1000000 in
theorem blank_any (w : World) : Calls Try.prog 8 #[] w fun e w' => ∃ v O, e = .returned v ∧ Old w w' ∧ (∀ i, O i → w.heap.size ≤ i) ∧ PapD v (some []) 0 w' O := by
  have R : Row (w.alloc (.cells #[.slice none 0 0, .int .i64 0] 64)) w.heap.size 64 [.slice none 0 0, .int .i64 0] := Row.new w 64 [.slice none 0 0, .int .i64 0]
  have P : Hid (PapD (.pointer (some ⟨w.heap.size, 0, none⟩)) (some []) 0 (w.alloc (.cells #[.slice none 0 0, .int .i64 0] 64)) (fun i => i = w.heap.size)) :=
    ⟨w.heap.size, _, [], 0, rfl, fun i => by simp [Value.ownBlock], R, OwnsB.none _ _, by simp [Value.ownBlock], by simp, by simp, .inl ⟨rfl, rfl⟩⟩
  clear R
  go_enter Try.func8, Try.ntmps8
  go_wp2
  go_ret
  exact ⟨_, _, rfl, Old.of_alloc _ _, fun i hi => Nat.le_of_eq hi.symm, P.out⟩
end Go.Proofs.Ytccphdngmhfmnaa
