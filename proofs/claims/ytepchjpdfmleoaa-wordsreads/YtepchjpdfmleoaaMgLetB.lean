/-
  MgLetB: 5 parts, one behind the other; what each proves, and under which conditions, its own heading says.
-/
import Derived.Test.YtepchjpdfmleoaaLetterE
import Derived.Test.YtepchjpdfmleoaaAwake14
import Derived.Test.YtepchjpdfmleoaaMgSs

/-
  Package letter: what a Paper's Small, Great, Bytes and Blank do.
-/
namespace Go.Proofs.Ytepchjpdfmleoaa
open Go.RowKit Cn
set_option linter.unusedVariables false

theorem PapD.mono {v : Value} {st : Option (List Nat)} {m : Nat} {w w' : World} {O : Nat → Prop} (h : PapD v st m w O) (o : Old w w') : PapD v st m w' O := h.stay (fun i hi => o.block i (h.isIn i hi)) o.size
theorem Turns.of_old {O : Nat → Prop} {w w1 w' : World} {Q : World → (Nat → Prop) → Prop} (o : Old w w1) (t : Turns O w1 w' Q) : Turns O w w' Q := by
  obtain ⟨O', k, hO, q⟩ := t
  refine ⟨O', (Kept.of_old o).trans k, fun i hi => ?_, q⟩
  rcases hO i hi with h | h
  · exact .inl h
  · exact .inr (Nat.le_trans o.size h)
theorem Turns.trans {O : Nat → Prop} {w w1 w' : World} {Q Q' : World → (Nat → Prop) → Prop} (t : Turns O w w1 Q) (h : ∀ O', Q w1 O' → Turns O' w1 w' Q') : Turns O w w' Q' := by
  obtain ⟨O1, k1, h1, q1⟩ := t
  obtain ⟨O2, k2, h2, q2⟩ := h O1 q1
  refine ⟨O2, ⟨k2.os.trans k1.os, k2.tape.trans k1.tape, k2.output.trans k1.output, Nat.le_trans k1.size k2.size, fun i hi hn => ?_⟩, fun i hi => ?_, q2⟩
  · exact (k2.block i (Nat.lt_of_lt_of_le hi k1.size) (fun ho => by
      rcases h1 i ho with h | h
      · exact hn h
      · omega)).trans (k1.block i hi hn)
  · rcases h2 i hi with h | h
    · exact h1 i h
    · exact .inr (Nat.le_trans k1.size h)
theorem Kept.rd {O : Nat → Prop} {w w' : World} {a : Option Addr} {vs : List Value} (h : Kept O w w') (rd : Rd w a vs) (hn : ∀ x, 0 < vs.length → a = some x → ¬ O x.block) : Rd w' a vs := by
  intro i v hv
  obtain ⟨b, off, rfl, hc⟩ := rd i v hv
  refine ⟨b, off, rfl, ?_⟩
  rw [← hc]
  exact World.cell?_of_block (h.block b (World.block_lt_of_cell? w _ hc) (hn _ (by have := (List.getElem?_eq_some_iff.1 hv).1; omega) rfl))

theorem smallP_add (st : Option (List Nat)) {n : Nat} (h : n < 4294967296) : addP st (le4 n) = smallP st (n : Int) := by
  unfold addP smallP
  rw [if_pos (by omega), Int.toNat_natCast]

set_option maxHeartbeats 2000000 in
theorem small_any (v : Value) (st : Option (List Nat)) (m m' : Nat) (O : Nat → Prop) (n : Int) (w : World) (h : PapD v st m w O) (hn : -9223372036854775808 ≤ n ∧ n ≤ 9223372036854775807) :
    Calls Try.prog 55 #[v, .int .i64 n] w fun e w' => e = .returned v ∧ Turns O w w' (PapD v (smallP st n) m') := by
  by_cases hr : 0 ≤ n ∧ n < 4294967296
  · obtain ⟨k, rfl⟩ : ∃ k : Nat, n = (k : Int) := ⟨n.toNat, by omega⟩
    have kl : k < 4294967296 := by omega
    have HP := hide h
    obtain ⟨b, fv, s, er, rfl, hO, P⟩ := h
    have e0 : IntKind.u64.wrap (k : Int) = k := by show (k : Int) % 18446744073709551616 = k; omega
    have t1 : decide ((4294967295 : Int) < (k : Int)) = false := decide_eq_false (by omega)
    have t1' : decide ((k : Int) > 4294967295) = false := t1
    have t2 : decide (4294967295 < k) = false := decide_eq_false (by omega)
    have C1 := hide (lowest_any k 4 (by omega) w)
    rw [leB_four] at C1
    have C1' : Hid (Calls Try.prog 88 #[.int .u64 (k : Int), .int .i64 4] w fun e w' => ∃ g, e = .returned (.slice (some ⟨g, 0, none⟩) 4 4) ∧ w.heap.size ≤ g ∧ Row w' g 5 (nums .u8 (le4 k)) ∧ Old w w') := C1
    have SA := hide (smallP_add st kl)
    clear C1 hn hr P hO
    go_enter Try.func55, Try.ntmps55
    go_wp2_with fail
    refine C1'.out.mono ?_
    rintro e w1 ⟨g, rfl, lg, R, o⟩
    have hw := HP.out.isIn
    have C2 := hide (add_any _ st m m' O (some ⟨g, 0, none⟩) 4 4 (le4 k) w1 (HP.out.mono o) (By14.row (rest := []) (by rw [List.append_nil]; exact R) rfl (Nat.le_refl _) (by omega) (le4_lt k)) (by omega) (fun x _ hx hO => by
      cases hx
      have := hw _ hO
      simp at this
      omega))
    rw [SA.out] at C2
    have OO := hide o
    clear R lg hw o C1'
    go_wp2_with fail
    refine C2.out.mono ?_
    rintro e w2 ⟨rfl, T⟩
    have TT := hide (Turns.of_old OO.out T)
    clear T C2
    go_wp2
    go_ret
    exact ⟨rfl, TT.out⟩
  · obtain ⟨b, fv, s, er, rfl, hO, P⟩ := h
    obtain ⟨z, hz⟩ : ∃ z, z = n % 18446744073709551616 := ⟨_, rfl⟩
    have e0 : IntKind.u64.wrap n = z := hz.symm
    have t1 : decide ((4294967295 : Int) < z) = true := decide_eq_true (by omega)
    have t1' : decide (z > 4294967295) = true := t1
    have SN : smallP st n = none := by unfold smallP; rw [if_neg hr]
    rw [SN]
    have C1 := hide (refuseP_any b fv er 4 w P.row)
    have HP := hide P
    have HO := hide hO
    clear P hO SN hz hn hr
    go_enter Try.func55, Try.ntmps55
    go_wp2_with fail
    refine C1.out.mono ?_
    rintro e w1 ⟨rfl, g1, R1⟩
    have T := PapD.gone (m := m') HP.out HO.out g1 R1 (.inr (.inl ⟨rfl, rfl, rfl⟩))
    clear C1 g1 R1
    go_wp2
    go_ret
    exact ⟨rfl, T⟩

set_option maxHeartbeats 2000000 in
theorem great_any (v : Value) (st : Option (List Nat)) (m m' : Nat) (O : Nat → Prop) (k : Nat) (w : World) (h : PapD v st m w O) (hk : k < 18446744073709551616) :
    Calls Try.prog 89 #[v, .int .u64 (k : Nat)] w fun e w' => e = .returned v ∧ Turns O w w' (PapD v (greatP st k) m') := by
  have HP := hide h
  clear h
  have C1 := hide (lowest_any k 8 (by omega) w)
  rw [leB_eight] at C1
  have C1' : Hid (Calls Try.prog 88 #[.int .u64 (k : Int), .int .i64 8] w fun e w' => ∃ g, e = .returned (.slice (some ⟨g, 0, none⟩) 8 8) ∧ w.heap.size ≤ g ∧ Row w' g 5 (nums .u8 (le8 k)) ∧ Old w w') := C1
  clear C1 hk
  go_enter Try.func89, Try.ntmps89
  go_wp2_with fail
  refine C1'.out.mono ?_
  rintro e w1 ⟨g, rfl, lg, R, o⟩
  have hw := HP.out.isIn
  have C2 := hide (add_any _ st m m' O (some ⟨g, 0, none⟩) 8 8 (le8 k) w1 (HP.out.mono o) (By14.row (rest := []) (by rw [List.append_nil]; exact R) rfl (Nat.le_refl _) (by omega) (le8_lt k)) (by omega) (fun x _ hx hO => by
    cases hx
    have := hw _ hO
    simp at this
    omega))
  have OO := hide o
  clear R lg hw o C1'
  go_wp2_with fail
  refine C2.out.mono ?_
  rintro e w2 ⟨rfl, T⟩
  have TT := hide (Turns.of_old OO.out T)
  clear T C2
  go_wp2
  go_ret
  exact ⟨rfl, TT.out⟩

theorem bytesP_add (st : Option (List Nat)) {xs : List Nat} {n : Nat} (hl : xs.length = n) (h : n < 4294967296) : addP (smallP st (n : Int)) xs = bytesP st xs := by
  rw [← smallP_add st h]
  unfold addP bytesP fieldB
  rw [hl]
  cases st <;> simp

set_option maxHeartbeats 2000000 in
theorem bytes_any (v : Value) (st : Option (List Nat)) (m m' : Nat) (O : Nat → Prop) (a : Option Addr) (n cap : Nat) (xs : List Nat) (w : World) (h : PapD v st m w O) (Y : By14 w a n cap xs) (hn : n ≤ 100000) (ha : ∀ x, 0 < xs.length → a = some x → ¬ O x.block) :
    Calls Try.prog 90 #[v, .slice a n cap] w fun e w' => e = .returned v ∧ Turns O w w' (PapD v (bytesP st xs) m') := by
  have BA := hide (bytesP_add st (n := n) Y.len (by omega))
  have C1 := hide (small_any v st m m' O n w h (by omega))
  have HY := hide Y
  have HA := hide ha
  clear Y ha h
  go_enter Try.func90, Try.ntmps90
  go_wp2_with fail
  refine C1.out.mono ?_
  rintro e w1 ⟨rfl, T1⟩
  have TT := hide T1
  obtain ⟨O1, k1, h1, P1⟩ := T1
  have Y1 : By14 w1 a n cap xs := ⟨HY.out.len, HY.out.room, HY.out.small, HY.out.each, k1.rd HY.out.rd (fun x hx e => HA.out x (by rwa [nums_length] at hx) e)⟩
  have hb : ∀ x, 0 < xs.length → a = some x → ¬ O1 x.block := by
    intro x hx e hO
    rcases h1 _ hO with h | h
    · exact HA.out x hx e h
    · have := HY.out.rd.lt e (by rw [nums_length]; exact hx)
      omega
  have C2 := hide (add_any v (smallP st n) m' m' O1 a n cap xs w1 P1 Y1 hn hb)
  rw [BA.out] at C2
  have K1 := hide k1
  have H1 := hide h1
  clear k1 h1 P1 Y1 hb C1
  go_wp2_with fail
  refine C2.out.mono ?_
  rintro e w2 ⟨rfl, T2⟩
  have HT := hide T2
  clear C2 T2
  go_wp2
  go_ret
  refine ⟨rfl, ?_⟩
  obtain ⟨O2, k2, h2, q2⟩ := HT.out
  refine ⟨O2, ⟨k2.os.trans K1.out.os, k2.tape.trans K1.out.tape, k2.output.trans K1.out.output, Nat.le_trans K1.out.size k2.size, fun i hi hn => ?_⟩, fun i hi => ?_, q2⟩
  · exact (k2.block i (Nat.lt_of_lt_of_le hi K1.out.size) (fun ho => by
      rcases H1.out i ho with h | h
      · exact hn h
      · omega)).trans (K1.out.block i hi hn)
  · rcases h2 i hi with h | h
    · exact H1.out i h
    · exact .inr (Nat.le_trans K1.out.size h)

set_option maxHeartbeats 1000000 in
theorem blank_any (w : World) : Calls Try.prog 23 #[] w fun e w' => ∃ v O, e = .returned v ∧ Old w w' ∧ (∀ i, O i → w.heap.size ≤ i) ∧ PapD v (some []) 0 w' O := by
  have R : Row (w.alloc (.cells #[.slice none 0 0, .int .i64 0] 92)) w.heap.size 92 [.slice none 0 0, .int .i64 0] := Row.new w 92 [.slice none 0 0, .int .i64 0]
  have P : Hid (PapD (.pointer (some ⟨w.heap.size, 0, none⟩)) (some []) 0 (w.alloc (.cells #[.slice none 0 0, .int .i64 0] 92)) (fun i => i = w.heap.size)) :=
    ⟨w.heap.size, _, [], 0, rfl, fun i => by simp [Value.ownBlock], R, OwnsB.none _ _, by simp [Value.ownBlock], by simp, by simp, .inl ⟨rfl, rfl⟩⟩
  clear R
  go_enter Try.func23, Try.ntmps23
  go_wp2
  go_ret
  exact ⟨_, _, rfl, Old.of_alloc _ _, fun i hi => Nat.le_of_eq hi.symm, P.out⟩
end Go.Proofs.Ytepchjpdfmleoaa

/-
  Package letter: what a Paper's Seal answers; what a nil Paper and a nil Eye answer.
-/
namespace Go.Proofs.Ytepchjpdfmleoaa
open Go.RowKit Cn
set_option linter.unusedVariables false

theorem OwnsB.base {w : World} {b b' : Nat} {v : Value} {xs : List Nat} (h : OwnsB w b v xs) (hb : b' ≤ b) : OwnsB w b' v xs := by
  refine ⟨h.1, ?_⟩
  rcases h.2 with hn | ⟨g, cap, cur, rfl, h1, rest⟩
  · exact .inl hn
  · exact .inr ⟨g, cap, cur, rfl, Nat.le_trans hb h1, rest⟩
theorem PapB.mono {w w' : World} {b : Nat} {fv : Value} {s : List Nat} {er : Int} {st : Option (List Nat)} (P : PapB w b fv s er st) (o : Old w w') : PapB w' b fv s er st :=
  ⟨P.row.mono o, P.own.mono o, P.ne, P.len, P.each, P.is⟩
/-- Two slices as a slice, in a region that draws. -/
theorem bld2 {C : World → Prop} {Ok : Tmp → Value → World → Prop} {o : Oper} {d x y : Tmp} {u : Value} (ho : o.op = .buildSlice 130 2 #[(0, .tmp x), (1, .tmp y)]) (hd : o.dst = some d) (p : Value → World → Prop) (hu : ∃ a n c, u = .slice a n c) (hp : ∀ v w, p v w → ∃ a n c, v = .slice a n c) (hx : ∀ v w, Ok x v w → v = u) (hy : ∀ v w, Ok y v w → p v w) (hC : ∀ w w', C w → Old w w' → C w')
    (h : ∀ v w, C w → p v w → Ok d (.slice (some ⟨w.heap.size, 0, none⟩) 2 2) (w.alloc (.cells #[u, v] 32))) : Ssb.Good Try.prog C Old Ok o :=
  Ssx.step hd fun a w hc hop => by
    have h1 := hx _ _ (hop x (by rw [ho]; simp [Op.operands]))
    have h2 := hy _ _ (hop y (by rw [ho]; simp [Op.operands]))
    obtain ⟨a1, n1, c1, e1⟩ := hp _ _ h2
    obtain ⟨a2, n2, c2, e2⟩ := hu
    refine ⟨.slice (some ⟨w.heap.size, 0, none⟩) 2 2, w.alloc (.cells #[u, a.eval (.tmp y)] 32), ?_, hC _ _ hc (Old.of_alloc _ _), Old.of_alloc _ _, h _ w hc h2⟩
    subst e2
    simp only [Act.eval] at h1 e1 ⊢
    rw [e1]
    unfold execOp
    simp [ho, Act.eval] at h1 e1 ⊢
    simp [h1, e1, go_sem]

def X23 (s : List Nat) : Ssx.XP Old := ⟨fun v w => ∃ g, v = .slice (some ⟨g, 0, none⟩) 4 4 ∧ Row w g 5 (nums .u8 (le4 (crc s))), fun _ _ _ ⟨g, h1, h2⟩ o => ⟨g, h1, h2.mono o⟩⟩
def X24 (a2 : Option Addr) (k2 : Nat) (s : List Nat) : Ssx.XP Old := ⟨fun v w => ∃ h g, v = .slice (some ⟨h, 0, none⟩) 2 2 ∧ Row w h 32 [.slice a2 s.length k2, .slice (some ⟨g, 0, none⟩) 4 4] ∧ Row w g 5 (nums .u8 (le4 (crc s))), fun _ _ _ ⟨h, g, h1, h2, h3⟩ o => ⟨h, g, h1, h2.mono o, h3.mono o⟩⟩
def X25 (B : Nat) (s : List Nat) : Ssx.XP Old := ⟨fun v w => OwnsB w B v (sealed s), fun _ _ _ h o => h.mono o⟩
theorem concatG (a2 : Option Addr) (k2 : Nat) (s : List Nat) {w : World} (hl : s.length ≤ 65536) (hB : ∀ w', Old w w' → By14 w' a2 s.length k2 s) {Ok : Tmp → Value → World → Prop} {o : Oper} {d x : Tmp} (ho : o.op = .call { callee := .value (.func 65), args := #[.tmp x], argTypes := #[130] }) (hd : o.dst = some d)
    (hx : ∀ v w', Ok x v w' → (X24 a2 k2 s).p v w') (h : ∀ v w', (X25 w.heap.size s).p v w' → Ok d v w') : Ssb.Good Try.prog (fun w' => Old w w') Old Ok o :=
  Ssx.call hd fun a' w' hC hop => by
    obtain ⟨g1, g2, h1, h2, h3⟩ := hx _ _ (hop x (by rw [ho]; simp [Op.operands, Call.operands]))
    have Y := hB w' hC
    have C := concat_any g1 a2 (some ⟨g2, 0, none⟩) s.length k2 4 4 s (le4 (crc s)) w' h2.rd rfl rfl Y.rd h3.rd (by omega) (by omega) (by omega)
    refine ⟨65, #[.slice (some ⟨g1, 0, none⟩) 2 2], ?_, C.mono fun e w2 ⟨v, h4, h5, h6⟩ => ⟨v, h4, hC.trans h6, h6, h _ _ (h5.base hC.size)⟩⟩
    simp [Act.eval] at h1
    unfold execOp
    simp [ho, Act.eval, h1, go_sem]

set_option maxRecDepth 100000 in
set_option maxHeartbeats 4000000 in
theorem seal_any (v : Value) (st : Option (List Nat)) (m : Nat) (O : Nat → Prop) (w : World) (h : PapD v st m w O) :
    Calls Try.prog 25 #[v] w fun e w' => ∃ r, e = .returned (.tuple #[r, .int .i64 (sealE st)]) ∧ Kept O w w' ∧ (sealE st = 0 → ∃ g cap rest, r = .slice (some ⟨g, 0, none⟩) (sealS st).length cap ∧ w.heap.size ≤ g ∧ (sealS st).length ≤ cap ∧ Row w' g 5 (nums .u8 (sealS st) ++ rest)) ∧ (sealE st ≠ 0 → ∃ a cap, r = .slice a 0 cap) := by
  obtain ⟨b, fv, s, er, rfl, hO, P⟩ := h
  have SE : sealE st = er := by
    rcases P.is with ⟨h1, h2⟩ | ⟨h1, h2, h3⟩ | ⟨h1, h2, l, h3, h4⟩
    · rw [h2, h1]; unfold sealE; simp only; rw [if_neg (by have := P.len; omega)]
    · rw [h2, h1]; rfl
    · rw [h3, h1]; unfold sealE; simp only; rw [if_pos h4]
  have SS : er = 0 → sealS st = sealed s := by
    intro he
    rcases P.is with ⟨h1, h2⟩ | ⟨h1, _⟩ | ⟨h1, _⟩
    · rw [h2]; rfl
    · omega
    · omega
  rw [SE]
  have HP := hide P
  have HO := hide hO
  have c0 := P.row.cell (i := 0) rfl
  have c1 := P.row.cell (i := 1) rfl
  have HL := hide P.len
  obtain ⟨a2, k2, hfv, hk, rd2⟩ := P.own.rd
  subst hfv
  have HB := hide (fun (w' : World) (o : Old w w') => (⟨rfl, hk, by have := P.len; omega, P.each, rd2.mono o⟩ : By14 w' a2 s.length k2 s))
  have HS := hide SS
  clear P hO SE SS hk rd2
  by_cases he : er = 0
  · subst he
    rw [HS.out rfl]
    clear HS
    have t0 : ((0 : Int) != 0) = false := rfl
    go_enter Try.func25, Try.ntmps25
    go_wp2_with fail
    refine Ssz.region (Ext := Old) 13 (fun w' => Old w w') (Ssz.Apart []) [15, 16, 17, 18, 19, 20, 21, 22, 23, 24, 25, 2, 3]
      [(15, Ssx.cst (.pointer (some ⟨b, 0, none⟩))), (16, Ssx.cst (.pointer (some ⟨b, 0, none⟩))), (17, Ssx.cst (.pointer (some ⟨b, 0, none⟩))), (18, Ssx.cst (.slice a2 s.length k2)), (19, Ssx.cst (.pointer (some ⟨b, 0, none⟩))), (20, Ssx.cst (.pointer (some ⟨b, 0, none⟩))), (21, Ssx.cst (.pointer (some ⟨b, 0, none⟩))), (22, Ssx.cst (.slice a2 s.length k2)), (23, X23 s), (24, X24 a2 k2 s), (25, X25 w.heap.size s), (2, X25 w.heap.size s), (3, Ssx.cst (.int .i64 0))]
      [] (by kernel_rfl) (by kernel_rfl) (by kernel_rfl) (by simp) (by kernel_rfl) (by intro p hp; cases hp) (by kernel_rfl) (by kernel_rfl) Old.refl (Old.of_drewN _ _) ?apart ?good ?behind
    case apart => exact ⟨fun s hs => by simp at hs, fun s hs => by simp at hs⟩
    case good =>
      have hE : ∀ w w' : World, Old w w' → w.heap.size ≤ w'.heap.size := fun _ _ h => h.size
      refine And.intro (.inr ⟨by kernel_rfl, Ssz.keep (Ssx.mv Old.refl rfl rfl (fun _ _ h => h)) hE (by kernel_rfl)⟩) ?_
      refine And.intro (.inr ⟨by kernel_rfl, Ssz.keep (Ssx.val1 Old.refl (x := 15) (.pointer (some ⟨b, 0, none⟩)) (by simp [Op.operands]) rfl (fun _ _ h => h) (fun ρ h1 hc w => Ssa.run_nil rfl h1 w) (fun _ => rfl)) hE (by kernel_rfl)⟩) ?_
      refine And.intro (.inr ⟨by kernel_rfl, Ssz.keep (Ssx.val1 Old.refl (x := 16) (.pointer (some ⟨b, 0, none⟩)) (by simp [Op.operands]) rfl (fun _ _ h => h) (fun ρ h1 hc w => by unfold execOp; simp [h1, go_sem]) (fun _ => rfl)) hE (by kernel_rfl)⟩) ?_
      refine And.intro (.inr ⟨by kernel_rfl, Ssz.keep (Ssy.cell Old.refl rfl rfl (⟨b, 0, none⟩) (.slice a2 s.length k2) (fun _ _ h => h) (fun w2 h => (HP.out.row.mono h).cell (i := 0) rfl) Try.underlying32 rfl (fun _ => rfl)) hE (by kernel_rfl)⟩) ?_
      refine And.intro (.inr ⟨by kernel_rfl, Ssz.keep (Ssx.mv Old.refl rfl rfl (fun _ _ h => h)) hE (by kernel_rfl)⟩) ?_
      refine And.intro (.inr ⟨by kernel_rfl, Ssz.keep (Ssx.val1 Old.refl (x := 19) (.pointer (some ⟨b, 0, none⟩)) (by simp [Op.operands]) rfl (fun _ _ h => h) (fun ρ h1 hc w => Ssa.run_nil rfl h1 w) (fun _ => rfl)) hE (by kernel_rfl)⟩) ?_
      refine And.intro (.inr ⟨by kernel_rfl, Ssz.keep (Ssx.val1 Old.refl (x := 20) (.pointer (some ⟨b, 0, none⟩)) (by simp [Op.operands]) rfl (fun _ _ h => h) (fun ρ h1 hc w => by unfold execOp; simp [h1, go_sem]) (fun _ => rfl)) hE (by kernel_rfl)⟩) ?_
      refine And.intro (.inr ⟨by kernel_rfl, Ssz.keep (Ssy.cell Old.refl rfl rfl (⟨b, 0, none⟩) (.slice a2 s.length k2) (fun _ _ h => h) (fun w2 h => (HP.out.row.mono h).cell (i := 0) rfl) Try.underlying32 rfl (fun _ => rfl)) hE (by kernel_rfl)⟩) ?_
      refine And.intro (.inr ⟨by kernel_rfl, Ssz.keep (Ssx.call rfl fun a' w' hC hop => ⟨66, #[.slice a2 s.length k2], ?_, (checkBytes_any a2 s.length k2 s w' (HB.out w' hC)).mono fun _ _ ⟨g, h1, _, h3, h4⟩ => ⟨_, h1, hC.trans h4, h4, g, rfl, h3⟩⟩) hE (by kernel_rfl)⟩) ?_
      · have h0 : a'.eval (.tmp 22) = .slice a2 s.length k2 := hop 22 (by simp [Op.operands, Call.operands])
        simp [Act.eval] at h0
        simp [h0, go_sem]
      refine And.intro (.inr ⟨by kernel_rfl, Ssz.keep (bld2 rfl rfl (X23 s).p ⟨_, _, _, rfl⟩ (fun v w2 ⟨g, h, _⟩ => ⟨_, _, _, h⟩) (fun _ _ h => h) (fun _ _ h => h) (fun w1 w2 h o => h.trans o) (fun v w2 hc ⟨g, h1, h2⟩ => ⟨w2.heap.size, g, rfl, by rw [h1]; exact Row.new w2 32 [.slice a2 s.length k2, .slice (some ⟨g, 0, none⟩) 4 4], h2.mono (Old.of_alloc _ _)⟩)) hE (by kernel_rfl)⟩) ?_
      refine And.intro (.inr ⟨by kernel_rfl, Ssz.keep (concatG a2 k2 s HL.out HB.out rfl rfl (fun _ _ h => h) (fun _ _ h => h)) hE (by kernel_rfl)⟩) ?_
      refine And.intro (.inr ⟨by kernel_rfl, Ssz.keep (Ssx.asg Old.refl rfl rfl (fun _ _ h => h)) hE (by kernel_rfl)⟩) ?_
      refine And.intro (.inr ⟨by kernel_rfl, Ssz.keep (Ssy.asgc Old.refl rfl rfl (fun _ => rfl)) hE (by kernel_rfl)⟩) ?_
      exact trivial
    case behind =>
      intro vals wb hC hD hv
      have v15 : vals 15 = _ := hv _ (.head _)
      have v16 : vals 16 = _ := hv _ (.tail _ (.head _))
      have v17 : vals 17 = _ := hv _ (.tail _ (.tail _ (.head _)))
      have v18 : vals 18 = _ := hv _ (.tail _ (.tail _ (.tail _ (.head _))))
      have v19 : vals 19 = _ := hv _ (.tail _ (.tail _ (.tail _ (.tail _ (.head _)))))
      have v20 : vals 20 = _ := hv _ (.tail _ (.tail _ (.tail _ (.tail _ (.tail _ (.head _))))))
      have v21 : vals 21 = _ := hv _ (.tail _ (.tail _ (.tail _ (.tail _ (.tail _ (.tail _ (.head _)))))))
      have v22 : vals 22 = _ := hv _ (.tail _ (.tail _ (.tail _ (.tail _ (.tail _ (.tail _ (.tail _ (.head _))))))))
      have v23 := hv _ (.tail _ (.tail _ (.tail _ (.tail _ (.tail _ (.tail _ (.tail _ (.tail _ (.head _)))))))))
      have v24 := hv _ (.tail _ (.tail _ (.tail _ (.tail _ (.tail _ (.tail _ (.tail _ (.tail _ (.tail _ (.head _))))))))))
      have v25 := hv _ (.tail _ (.tail _ (.tail _ (.tail _ (.tail _ (.tail _ (.tail _ (.tail _ (.tail _ (.tail _ (.head _)))))))))))
      have v2 := hv _ (.tail _ (.tail _ (.tail _ (.tail _ (.tail _ (.tail _ (.tail _ (.tail _ (.tail _ (.tail _ (.tail _ (.head _))))))))))))
      have v3 : vals 3 = _ := hv _ (.tail _ (.tail _ (.tail _ (.tail _ (.tail _ (.tail _ (.tail _ (.tail _ (.tail _ (.tail _ (.tail _ (.tail _ (.head _)))))))))))))
      simp only [Ssa.putAll, List.map_cons, List.map_nil, List.foldl_cons, List.foldl_nil, List.setIfInBounds_toArray, List.set_cons_succ, List.set_cons_zero, v15, v16, v17, v18, v19, v20, v21, v22, v3, List.drop_succ_cons, List.drop_zero]
      have RV := hide v2
      clear hv v2 v25 v24 v23 v15 v16 v17 v18 v19 v20 v21 v22 v3
      have OO := hide hC
      clear hC hD c0 c1
      obtain ⟨g, k, rest, hv2, lg, hk, R⟩ := OwnsB.row RV.out (by unfold sealed; rw [List.length_append]; show 0 < s.length + 4; omega)
      rw [hv2]
      clear RV hv2
      go_wp2
      go_ret2
      exact ⟨_, rfl, Kept.of_old OO.out, fun _ => ⟨g, k, rest, rfl, lg, hk, R⟩, fun h => absurd rfl h⟩
  · have t0 : (er != 0) = true := by simpa using he
    have HE := hide he
    clear he
    go_enter Try.func25, Try.ntmps25
    go_wp2_with fail
    go_quiet (fail)
    go_wp2
    go_ret2
    exact ⟨_, rfl, Kept.of_old (Old.of_drewN _ _), fun h => absurd h HE.out, fun _ => ⟨none, 0, rfl⟩⟩
end Go.Proofs.Ytepchjpdfmleoaa

/-
  Package letter: what an Eye's calls do; Look.
-/
namespace Go.Proofs.Ytepchjpdfmleoaa
open Go.RowKit Cn
set_option linter.unusedVariables false

/-- What an Eye has left. -/
structure EyeB (w : World) (b : Nat) (a : Option Addr) (k : Nat) (r l : List Nat) (er : Int) : Prop where
  row : Row w b 107 [.slice a r.length k, .int .i64 er]
  room : r.length ≤ k
  rd : Rd w a (nums .u8 r)
  ne : ∀ x, 0 < r.length → a = some x → x.block ≠ b
  len : r.length ≤ 65536
  each : ∀ x ∈ r, x < 256
  ok : er = 0 → r = l
  no : er ≠ 0 → r = []
  lit : ∀ x, a = some x → ∃ b0 off, x = ⟨b0, off, none⟩
def EyeD (v : Value) (l : List Nat) (er : Int) (w : World) (O : Nat → Prop) : Prop :=
  ∃ (b : Nat) (a : Option Addr) (k : Nat) (r : List Nat), v = .pointer (some ⟨b, 0, none⟩) ∧ (∀ i, O i ↔ i = b ∨ ∃ x, 0 < r.length ∧ a = some x ∧ x.block = i) ∧ EyeB w b a k r l er
theorem EyeD.isIn {v : Value} {l : List Nat} {er : Int} {w : World} {O : Nat → Prop} (h : EyeD v l er w O) : ∀ i, O i → i < w.heap.size := by
  obtain ⟨b, a, k, r, rfl, hO, P⟩ := h
  intro i hi
  rcases (hO i).1 hi with rfl | ⟨x, hp, ha, rfl⟩
  · exact P.row.lt
  · exact P.rd.lt ha (by rw [nums_length]; exact hp)
theorem Rd.same {w w' : World} {a : Option Addr} {vs : List Value} (h : Rd w a vs) (hs : ∀ x, 0 < vs.length → a = some x → w'.heap[x.block]? = w.heap[x.block]?) : Rd w' a vs := by
  intro i v hv
  obtain ⟨b, off, rfl, hc⟩ := h i v hv
  refine ⟨b, off, rfl, ?_⟩
  rw [← hc]
  exact World.cell?_of_block (a := ⟨b, off + i, none⟩) (hs ⟨b, off, none⟩ (by have := (List.getElem?_eq_some_iff.1 hv).1; omega) rfl)
theorem EyeD.stay {v : Value} {l : List Nat} {er : Int} {w w' : World} {O : Nat → Prop} (h : EyeD v l er w O) (hs : ∀ i, O i → w'.heap[i]? = w.heap[i]?) (hz : w.heap.size ≤ w'.heap.size) : EyeD v l er w' O := by
  obtain ⟨b, a, k, r, rfl, hO, P⟩ := h
  exact ⟨b, a, k, r, rfl, hO, (hs b ((hO b).2 (.inl rfl))).trans P.row, P.room, P.rd.same (fun x hp ha => hs _ ((hO _).2 (.inr ⟨x, by rwa [nums_length] at hp, ha, rfl⟩))), P.ne, P.len, P.each, P.ok, P.no, P.lit⟩

set_option maxHeartbeats 1000000 in
theorem refuseE_any (b : Nat) (fv : Value) (er er' : Int) (w : World) (R : Row w b 107 [fv, .int .i64 er]) :
    Calls Try.prog 79 #[.pointer (some ⟨b, 0, none⟩), .int .i64 er'] w fun e w' => e = .returned (.tuple #[]) ∧ w.grownBy w' (some b) ∧ Row w' b 107 [.slice none 0 0, .int .i64 er'] := by
  have f0 := R.free 0
  have f1 := R.free 1
  have c0 := R.cell (i := 0) rfl
  have c1 := R.cell (i := 1) rfl
  have R2 : Hid (Row ((w.setCell ⟨b, 0, none⟩ (.slice none 0 0)).setCell ⟨b, 1, none⟩ (.int .i64 er')) b 107 [.slice none 0 0, .int .i64 er']) := (R.set 0 (.slice none 0 0)).set 1 (.int .i64 er')
  have G := hide (grown_trans (grown_set w b 0 (.slice none 0 0)) (grown_set (w.setCell ⟨b, 0, none⟩ (.slice none 0 0)) b 1 (.int .i64 er')))
  have f1' : (w.setCell ⟨b, 0, none⟩ (.slice none 0 0)).frozen? ⟨b, 1, none⟩ = false := (R.set 0 (.slice none 0 0)).free 1
  clear R
  go_enter Try.func79, Try.ntmps79
  go_wp2
  simp [bodyPost, results, Try.results79, go_sem]
  exact ⟨G.out, R2.out⟩
theorem EyeD.gone {b : Nat} {a : Option Addr} {k : Nat} {r l l' : List Nat} {er er' : Int} {w w' : World} {O : Nat → Prop} (P : EyeB w b a k r l er) (hO : ∀ i, O i ↔ i = b ∨ ∃ x, 0 < r.length ∧ a = some x ∧ x.block = i)
    (g : w.grownBy w' (some b)) (R : Row w' b 107 [.slice none 0 0, .int .i64 er']) (he : er' ≠ 0) : Turns O w w' (EyeD (.pointer (some ⟨b, 0, none⟩)) l' er') :=
  ⟨fun i => i = b, Kept.of_grown g ((hO b).2 (.inl rfl)), fun i hi => .inl ((hO i).2 (.inl hi)), b, none, 0, [], rfl, fun i => by simp, R, Nat.le_refl _, Rd.nil _, by simp, by simp, by simp, fun h => absurd h he, fun _ => rfl, by simp⟩

theorem rd_take {w : World} {a : Option Addr} {xs : List Nat} (h : Rd w a (nums .u8 xs)) (k : Nat) : Rd w a (nums .u8 (xs.take k)) := by
  intro i v hv
  rw [show nums .u8 (xs.take k) = (nums .u8 xs).take k by simp [nums, List.map_take], List.getElem?_take] at hv
  split at hv
  · exact h i v hv
  · cases hv
theorem rd_drop {w : World} {b off : Nat} {xs : List Nat} (h : Rd w (some ⟨b, off, none⟩) (nums .u8 xs)) (k : Nat) : Rd w (some ⟨b, off + k, none⟩) (nums .u8 (xs.drop k)) := by
  intro i v hv
  rw [show nums .u8 (xs.drop k) = (nums .u8 xs).drop k by simp [nums, List.map_drop], List.getElem?_drop] at hv
  obtain ⟨b2, o2, e, hcell⟩ := h (k + i) v hv
  obtain ⟨rfl, rfl⟩ : b = b2 ∧ off = o2 := by simpa using e
  exact ⟨b, off + k, rfl, by rw [Nat.add_assoc]; exact hcell⟩

/-- What take hands back. -/
def TakeR (O : Nat → Prop) (v : Value) (l : List Nat) (er : Int) (n : Nat) (w : World) (e : Ending) (w' : World) : Prop :=
  ∃ a k, e = .returned (.slice a (tkS l er n).length k) ∧ Rd w' a (nums .u8 (tkS l er n)) ∧ (∀ x ∈ tkS l er n, x < 256) ∧ Turns O w w' (EyeD v (tkL l er n) (tkE l er n))
theorem EyeD.same {v : Value} {l : List Nat} {er : Int} {w : World} {O : Nat → Prop} (h : EyeD v l er w O) : Turns O w w (EyeD v l er) := ⟨O, Kept.refl _ _, fun i hi => .inl hi, h⟩

set_option maxHeartbeats 4000000 in
theorem take_any (v : Value) (l : List Nat) (er : Int) (n : Nat) (hn : n ≤ 4294967295) (O : Nat → Prop) (w : World) (h : EyeD v l er w O) :
    Calls Try.prog 97 #[v, .int .i64 (n : Int)] w fun e w' => TakeR O v l er n w e w' := by
  have HT := hide h.same
  obtain ⟨b, a, k, r, rfl, hO, P⟩ := h
  have HO := hide hO
  have HP := hide P
  have c0 := P.row.cell (i := 0) rfl
  have c1 := P.row.cell (i := 1) rfl
  have f0 := P.row.free 0
  clear hO P
  by_cases he : er = 0
  · subst he
    obtain rfl := HP.out.ok rfl
    have t0 : ((0 : Int) != 0) = false := rfl
    by_cases hl : r.length < n
    · have E : tkS r 0 n = [] ∧ tkL r 0 n = [] ∧ tkE r 0 n = 3 := by unfold tkS tkL tkE; simp [hl]
      unfold TakeR
      rw [E.1, E.2.1, E.2.2]
      have t1 : decide ((r.length : Int) < (n : Int)) = true := decide_eq_true (by omega)
      have t1' : decide ((n : Int) > (r.length : Int)) = true := t1
      have t2 : decide (r.length < n) = true := decide_eq_true hl
      have C1 := hide (refuseE_any b _ 0 3 w HP.out.row)
      clear E HT hl
      go_enter Try.func97, Try.ntmps97
      go_wp2_with fail
      refine C1.out.mono ?_
      rintro e w1 ⟨rfl, g1, R1⟩
      have T := EyeD.gone (l' := []) HP.out HO.out g1 R1 (show (3 : Int) ≠ 0 by omega)
      clear C1 g1 R1
      go_wp2
      go_ret
      exact ⟨none, 0, rfl, Rd.nil _, by simp, T⟩
    · have E : tkS r 0 n = r.take n ∧ tkL r 0 n = r.drop n ∧ tkE r 0 n = 0 := by unfold tkS tkL tkE; simp [hl]
      unfold TakeR
      rw [E.1, E.2.1, E.2.2]
      have t1 : decide ((r.length : Int) < (n : Int)) = false := decide_eq_false (by omega)
      have t1' : decide ((n : Int) > (r.length : Int)) = false := t1
      have t2 : decide (r.length < n) = false := decide_eq_false hl
      have hk := HP.out.room
      have q0 : (0 : Int) ≤ n := by omega
      have q1 : (n : Int) ≤ k := by omega
      have q2 : (n : Int) ≤ r.length := by omega
      have lt : (r.take n).length = n := by rw [List.length_take]; omega
      have ld : (r.drop n).length = r.length - n := by rw [List.length_drop]
      have HLT := hide lt
      have HLD := hide ld
      rw [lt]
      clear E HT lt ld
      -- what is behind the two cuts
      have fin : ∀ (a' : Option Addr), (0 < r.length - n → ∃ b0 off, a = some ⟨b0, off, none⟩ ∧ a' = some ⟨b0, off + n, none⟩) → (∀ x, a' = some x → ∃ b0 off, x = ⟨b0, off, none⟩) → Hid (Turns O w (w.setCell ⟨b, 0, none⟩ (.slice a' (r.length - n) (k - n))) (EyeD (.pointer (some ⟨b, 0, none⟩)) (r.drop n) 0)) ∧ Hid (Rd (w.setCell ⟨b, 0, none⟩ (.slice a' (r.length - n) (k - n))) a (nums .u8 (r.take n))) := by
        intro a' ha' hl'
        have g := grown_set w b 0 (.slice a' (r.length - n) (k - n))
        have R2 : Row (w.setCell ⟨b, 0, none⟩ (.slice a' (r.length - n) (k - n))) b 107 [.slice a' (r.drop n).length (k - n), .int .i64 0] := by rw [HLD.out]; exact HP.out.row.set 0 _
        have RA : Rd (w.setCell ⟨b, 0, none⟩ (.slice a' (r.length - n) (k - n))) a (nums .u8 r) := HP.out.rd.same fun x hp hx => g.block _ (HP.out.rd.lt hx hp) (fun e => HP.out.ne x (by rwa [nums_length] at hp) hx (by cases e; rfl))
        have bk : ∀ x', 0 < (r.drop n).length → a' = some x' → ∃ x, 0 < r.length ∧ a = some x ∧ x.block = x'.block := by
          intro x' hp hx'
          rw [HLD.out] at hp
          obtain ⟨b0, off, e1, e2⟩ := ha' hp
          rw [e2] at hx'
          cases hx'
          exact ⟨_, by omega, e1, rfl⟩
        refine ⟨⟨fun i => i = b ∨ ∃ x, 0 < (r.drop n).length ∧ a' = some x ∧ x.block = i, Kept.of_grown g ((HO.out b).2 (.inl rfl)), fun i hi => ?_, b, a', k - n, r.drop n, rfl, fun i => Iff.rfl, R2, by rw [HLD.out]; omega, ?_, fun x hp hx => ?_, by rw [HLD.out]; have := HP.out.len; omega, fun x hx => HP.out.each x (List.mem_of_mem_drop hx), fun _ => rfl, fun h => absurd rfl h, hl'⟩, rd_take RA n⟩
        · rcases hi with h | ⟨x, hp, hx, e⟩
          · exact .inl ((HO.out i).2 (.inl h))
          · obtain ⟨x0, h1, h2, h3⟩ := bk x hp hx
            exact .inl ((HO.out i).2 (.inr ⟨x0, h1, h2, h3.trans e⟩))
        · by_cases hp : 0 < r.length - n
          · skip
            obtain ⟨b1, off1, e1, rfl⟩ := ha' hp
            rw [e1] at RA
            exact rd_drop RA n
          · rw [List.drop_eq_nil_of_le (by omega)]
            exact Rd.nil _
        · obtain ⟨x0, h1, h2, h3⟩ := bk x hp hx
          rw [← h3]
          exact HP.out.ne x0 h1 h2
      have lx := HP.out.each
      have HX : Hid (∀ x ∈ r.take n, x < 256) := fun x hx => lx x (List.mem_of_mem_take hx)
      clear lx
      cases a with
      | none =>
        have hr : r.length = 0 := by
          rcases Nat.eq_zero_or_pos r.length with h | h
          · exact h
          · obtain ⟨_, _, _, e, _⟩ := HP.out.rd.num (i := 0) h
            cases e
        obtain ⟨F1, F2⟩ := fin none (fun h => by omega) (by simp)
        rw [show r.length - n = 0 by omega] at F1 F2
        clear fin HP
        go_enter Try.func97, Try.ntmps97
        go_wp2
        go_ret
        exact ⟨_, _, rfl, F2.out, HX.out, F1.out⟩
      | some x =>
        obtain ⟨b0, off, rfl⟩ := HP.out.lit x rfl
        by_cases hkn : k = n
        · obtain ⟨F1, F2⟩ := fin (some ⟨b0, off, none⟩) (fun h => by omega) (fun x hx => by cases hx; exact ⟨_, _, rfl⟩)
          clear fin HP
          subst hkn
          rw [Nat.sub_self, show r.length - k = 0 by omega] at F1 F2
          go_enter Try.func97, Try.ntmps97
          go_wp2
          go_ret
          exact ⟨_, _, rfl, F2.out, HX.out, F1.out⟩
        · obtain ⟨F1, F2⟩ := fin (some ⟨b0, off + n, none⟩) (fun h => ⟨b0, off, rfl, rfl⟩) (fun x hx => by cases hx; exact ⟨_, _, rfl⟩)
          clear fin HP
          have q4 : 1 ≤ k - n := by omega
          have q5 : n < k := by omega
          go_enter Try.func97, Try.ntmps97
          go_wp2
          go_ret
          exact ⟨_, _, rfl, F2.out, HX.out, F1.out⟩
  · have E : tkS l er n = [] ∧ tkL l er n = l ∧ tkE l er n = er := by unfold tkS tkL tkE; simp [he]
    unfold TakeR
    rw [E.1, E.2.1, E.2.2]
    have t1 : (er != 0) = true := by simpa using he
    clear E HP HO he
    go_enter Try.func97, Try.ntmps97
    go_wp2
    go_ret
    exact ⟨none, 0, rfl, Rd.nil _, by simp, HT.out⟩

theorem EyeD.mono {v : Value} {l : List Nat} {er : Int} {w w' : World} {O : Nat → Prop} (h : EyeD v l er w O) (o : Old w w') : EyeD v l er w' O := h.stay (fun i hi => o.block i (h.isIn i hi)) o.size

set_option maxHeartbeats 1000000 in
theorem eSmall_any (v : Value) (l : List Nat) (er : Int) (O : Nat → Prop) (w : World) (h : EyeD v l er w O) :
    Calls Try.prog 69 #[v] w fun e w' => e = .returned (.int .i64 ((nmN l er 4 : Nat) : Int)) ∧ Turns O w w' (EyeD v (tkL l er 4) (tkE l er 4)) := by
  have C1 := hide (take_any v l er 4 (by omega) O w h)
  have C1' : Hid (Calls Try.prog 97 #[v, .int .i64 4] w fun e w' => TakeR O v l er 4 w e w') := C1
  have HL := hide (tkS_len l er 4)
  unfold nmN
  clear C1 h
  go_enter Try.func69, Try.ntmps69
  go_wp2_with fail
  refine C1'.out.mono ?_
  rintro e w1 ⟨a, k, rfl, rd, hx, T⟩
  have TT := hide T
  have C2 := hide (number_any a (tkS l er 4).length k (tkS l er 4) hx rfl (by have := HL.out; omega) w1 rd)
  have nl : numL (tkS l er 4) < 4294967296 := by
    have h1 := numL_lt hx
    have h2 : (256 : Nat) ^ (tkS l er 4).length ≤ 256 ^ 4 := Nat.pow_le_pow_right (by omega) HL.out
    exact Nat.lt_of_lt_of_le h1 (Nat.le_trans h2 (by decide))
  have e0 : IntKind.i64.wrap ((numL (tkS l er 4) : Nat) : Int) = ((numL (tkS l er 4) : Nat) : Int) := by rw [IntKind.wrap_i64]; omega
  have e1 : wrap64 ((numL (tkS l er 4) : Nat) : Int) = ((numL (tkS l er 4) : Nat) : Int) := by unfold wrap64; omega
  clear T rd hx C1' HL nl
  generalize hz : numL (tkS l er 4) = z at *
  have HZ := hide hz
  clear hz
  go_wp2_with fail
  refine C2.out.mono ?_
  rintro e w2 ⟨rfl, rfl⟩
  go_wp2
  go_ret
  exact ⟨by rw [HZ.out]; rfl, TT.out⟩

set_option maxHeartbeats 1000000 in
theorem eGreat_any (v : Value) (l : List Nat) (er : Int) (O : Nat → Prop) (w : World) (h : EyeD v l er w O) :
    Calls Try.prog 98 #[v] w fun e w' => e = .returned (.int .u64 ((nmN l er 8 : Nat) : Int)) ∧ Turns O w w' (EyeD v (tkL l er 8) (tkE l er 8)) := by
  have C1 := hide (take_any v l er 8 (by omega) O w h)
  have C1' : Hid (Calls Try.prog 97 #[v, .int .i64 8] w fun e w' => TakeR O v l er 8 w e w') := C1
  have HL := hide (tkS_len l er 8)
  unfold nmN
  clear C1 h
  go_enter Try.func98, Try.ntmps98
  go_wp2_with fail
  refine C1'.out.mono ?_
  rintro e w1 ⟨a, k, rfl, rd, hx, T⟩
  have TT := hide T
  have C2 := hide (number_any a (tkS l er 8).length k (tkS l er 8) hx rfl (by have := HL.out; omega) w1 rd)
  clear T rd hx C1' HL
  generalize hz : numL (tkS l er 8) = z at *
  have HZ := hide hz
  clear hz
  go_wp2_with fail
  refine C2.out.mono ?_
  rintro e w2 ⟨rfl, rfl⟩
  go_wp2
  go_ret
  exact ⟨by rw [HZ.out]; rfl, TT.out⟩

theorem nmN_below {l : List Nat} (er : Int) {n : Nat} (h : ∀ x ∈ tkS l er n, x < 256) : nmN l er n < 256 ^ n :=
  Nat.lt_of_lt_of_le (numL_lt h) (Nat.pow_le_pow_right (by omega) (tkS_len l er n))
theorem EyeD.each {v : Value} {l : List Nat} {er : Int} {w : World} {O : Nat → Prop} (h : EyeD v l er w O) (n : Nat) : ∀ x ∈ tkS l er n, x < 256 := by
  obtain ⟨b, a, k, r, rfl, hO, P⟩ := h
  by_cases he : er = 0
  · have := P.ok he
    subst this
    exact tkS_lt P.each er n
  · unfold tkS; rw [if_pos he]; simp

set_option maxHeartbeats 1000000 in
theorem eBytes_any (v : Value) (l : List Nat) (er : Int) (O : Nat → Prop) (w : World) (h : EyeD v l er w O) :
    Calls Try.prog 99 #[v] w fun e w' => ∃ a cap, e = .returned (.slice a (tkS (tkL l er 4) (tkE l er 4) (nmN l er 4)).length cap) ∧ Rd w' a (nums .u8 (tkS (tkL l er 4) (tkE l er 4) (nmN l er 4))) ∧ Turns O w w' (EyeD v (tkL (tkL l er 4) (tkE l er 4) (nmN l er 4)) (tkE (tkL l er 4) (tkE l er 4) (nmN l er 4))) := by
  have C1 := hide (eSmall_any v l er O w h)
  have nl : nmN l er 4 < 256 ^ 4 := nmN_below er (h.each 4)
  have nl2 : nmN l er 4 ≤ 4294967295 := by omega
  generalize nmN l er 4 = n at *
  generalize tkL l er 4 = l2 at *
  generalize tkE l er 4 = er2 at *
  have HN := hide nl2
  clear h nl nl2
  go_enter Try.func99, Try.ntmps99
  go_wp2_with fail
  refine C1.out.mono ?_
  rintro e w1 ⟨rfl, T⟩
  obtain ⟨O1, k1, h1, q1⟩ := T
  have C2 := hide (take_any v l2 er2 n HN.out O1 w1 q1)
  have K1 := hide k1
  have H1 := hide h1
  clear C1 k1 h1 q1
  go_wp2_with fail
  refine C2.out.mono ?_
  rintro e w2 ⟨a, k, rfl, rd, hx, T2⟩
  have RD := hide rd
  have T3 := hide T2
  clear rd hx T2 C2
  go_wp2
  go_ret
  refine ⟨a, k, rfl, RD.out, ?_⟩
  obtain ⟨O2, k2, h2, q2⟩ := T3.out
  refine ⟨O2, ⟨k2.os.trans K1.out.os, k2.tape.trans K1.out.tape, k2.output.trans K1.out.output, Nat.le_trans K1.out.size k2.size, fun i hi hn => ?_⟩, fun i hi => ?_, q2⟩
  · exact (k2.block i (Nat.lt_of_lt_of_le hi K1.out.size) (fun ho => by
      rcases H1.out i ho with h | h
      · exact hn h
      · omega)).trans (K1.out.block i hi hn)
  · rcases h2 i hi with h | h
    · exact H1.out i h
    · exact .inr (Nat.le_trans K1.out.size h)

set_option maxHeartbeats 1000000 in
theorem eEnd_any (v : Value) (l : List Nat) (er : Int) (O : Nat → Prop) (w : World) (h : EyeD v l er w O) :
    Calls Try.prog 28 #[v] w fun e w' => e = .returned (.int .i64 (endE l er)) ∧ Turns O w w' (EyeD v l (endE l er)) := by
  have HT := hide h.same
  obtain ⟨b, a, k, r, rfl, hO, P⟩ := h
  have HO := hide hO
  have HP := hide P
  have c0 := P.row.cell (i := 0) rfl
  have c1 := P.row.cell (i := 1) rfl
  have C1 := hide (refuseE_any b _ er 2 w P.row)
  by_cases hr : 0 < r.length
  · have he : er = 0 := by
      by_cases he : er = 0
      · exact he
      · rw [P.no he] at hr; exact absurd hr (by simp)
    subst he
    obtain rfl := P.ok rfl
    have E : endE r 0 = 2 := by unfold endE; rw [if_neg (by omega), if_neg (by omega)]
    rw [E]
    have t1 : decide ((0 : Int) < (r.length : Int)) = true := decide_eq_true (by omega)
    have t1' : decide ((r.length : Int) > 0) = true := t1
    have t2 : decide (0 < r.length) = true := decide_eq_true hr
    clear E HT P hO hr
    go_enter Try.func28, Try.ntmps28
    go_wp2_with fail
    refine C1.out.mono ?_
    rintro e w1 ⟨rfl, g1, R1⟩
    have T := hide (EyeD.gone (l' := r) HP.out HO.out g1 R1 (show (2 : Int) ≠ 0 by omega))
    have c3 := R1.cell (i := 1) rfl
    clear C1 g1 R1 c0 c1
    go_wp2
    go_ret
    exact ⟨rfl, T.out⟩
  · have E : endE l er = er := by
      unfold endE
      by_cases he : er = 0
      · subst he
        rw [if_neg (by omega), ← P.ok rfl, if_pos (by omega)]
      · rw [if_pos he]
    rw [E]
    have hr0 : r.length = 0 := by omega
    have t1 : decide ((0 : Int) < (r.length : Int)) = false := decide_eq_false (by omega)
    have t1' : decide ((r.length : Int) > 0) = false := t1
    have t2 : decide (0 < r.length) = false := decide_eq_false hr
    clear E P hO hr hr0 C1 HP HO
    go_enter Try.func28, Try.ntmps28
    go_wp2
    go_ret
    exact ⟨rfl, HT.out⟩
end Go.Proofs.Ytepchjpdfmleoaa

/-
  Package letter: what Look answers; nil Papers and nil Eyes; layer 14's calls are what they owe.
-/
namespace Go.Proofs.Ytepchjpdfmleoaa
open Go.RowKit Cn
set_option linter.unusedVariables false

theorem By14.front {w : World} {b : Option Addr} {n cap : Nat} {xs : List Nat} (h : By14 w b n cap xs) (k : Nat) (hk : k ≤ n) : By14 w b k cap (xs.take k) :=
  ⟨by rw [List.length_take, h.len]; omega, by have := h.room; omega, by have := h.small; omega, fun x hx => h.each x (List.mem_of_mem_take hx), rd_take h.rd k⟩
/-- The fields among sealed bytes. -/
def OpR (w : World) (xs : List Nat) (e : Ending) (w' : World) : Prop :=
  ∃ a cap, e = .returned (.tuple #[.slice a (opL xs).length cap, .int .i64 (opE xs)]) ∧ (opL xs).length ≤ cap ∧ Rd w' a (nums .u8 (opL xs)) ∧ Old w w'
theorem OpR.bad {w w' : World} {xs : List Nat} {er : Int} (h : opE xs = er) (he : er ≠ 0) (o : Old w w') : OpR w xs (.returned (.tuple #[.slice none 0 0, .int .i64 er])) w' := by
  have h2 : opL xs = [] := by unfold opL; rw [h, if_neg he]
  unfold OpR
  rw [h, h2]
  exact ⟨none, 0, rfl, Nat.le_refl _, Rd.nil _, o⟩
theorem equalG {b off k n cap : Nat} {xs ds : List Nat} {w : World} (hr : ∀ w', Old w w' → Rd w' (some ⟨b, off + k, none⟩) (nums .u8 ds)) (hl : ds.length = n - k) (hn : n ≤ 100000) {B : Bool} (hB : B = decide (ds = le4 (crc xs))) {Ok : Tmp → Value → World → Prop} {o : Oper} {d x y : Tmp} (ho : o.op = .call { callee := .value (.func 95), args := #[.tmp x, .tmp y], argTypes := #[32, 32] }) (hd : o.dst = some d)
    (hx : ∀ v w', Ok x v w' → v = .slice (some ⟨b, off + k, none⟩) (n - k) (cap - k)) (hy : ∀ v w', Ok y v w' → (X23 xs).p v w') (h : ∀ w', Ok d (.bool B) w') : Ssb.Good Try.prog (fun w' => Old w w') Old Ok o :=
  Ssx.call hd fun a' w' hC hop => by
    have h1 := hx _ _ (hop x (by rw [ho]; simp [Op.operands, Call.operands]))
    obtain ⟨g, h2, h3⟩ := hy _ _ (hop y (by rw [ho]; simp [Op.operands, Call.operands]))
    have C := equal8_any (cap - k) 4 w' (by omega) hl rfl (hr w' hC) h3.rd
    refine ⟨95, #[.slice (some ⟨b, off + k, none⟩) (n - k) (cap - k), .slice (some ⟨g, 0, none⟩) 4 4], ?_, C.mono fun e w2 ⟨h4, h5⟩ => ⟨_, h4, hC.trans h5, h5, by rw [← hB]; exact h _⟩⟩
    simp [Act.eval] at h1 h2
    unfold execOp
    simp [ho, Act.eval, h1, h2, go_sem]

set_option maxRecDepth 100000 in
set_option maxHeartbeats 4000000 in
theorem opened_any (a : Option Addr) (n cap : Nat) (xs : List Nat) (w : World) (Y : By14 w a n cap xs) :
    Calls Try.prog 67 #[.slice a n cap] w fun e w' => OpR w xs e w' := by
  have hn := Y.len
  have HS := hide Y.small
  by_cases h1 : n < 4
  · have E : opE xs = 3 := by unfold opE; rw [hn, if_pos h1]
    have t1 : decide ((n : Int) < 4) = true := by simp; omega
    have F := hide (fun (w' : World) (o : Old w w') => OpR.bad E (by omega) o)
    clear E Y hn
    go_enter Try.func67, Try.ntmps67
    go_wp2
    go_ret2
    exact F.out _ (Old.refl _)
  have t1 : decide ((n : Int) < 4) = false := by simp; omega
  by_cases h2 : 65540 < n
  · have E : opE xs = 6 := by unfold opE; rw [hn, if_neg h1, if_pos h2]
    have t2 : decide ((65540 : Int) < n) = true := by simp; omega
    have t2' : decide ((n : Int) > 65540) = true := t2
    have F := hide (fun (w' : World) (o : Old w w') => OpR.bad E (by omega) o)
    clear E Y hn
    go_enter Try.func67, Try.ntmps67
    go_wp2
    go_ret2
    exact F.out _ (Old.refl _)
  have t2 : decide ((65540 : Int) < n) = false := by simp; omega
  have t2' : decide ((n : Int) > 65540) = false := t2
  obtain ⟨k, hk⟩ : ∃ k, n = k + 4 := ⟨n - 4, by omega⟩
  obtain ⟨b, off, _, rfl, _, _⟩ := Y.rd.num (i := 0) (by omega)
  have HE : opE xs = if le4 (crc (xs.take k)) ≠ xs.drop k then 2 else 0 := by
    unfold opE
    rw [hn, if_neg h1, if_neg h2, show n - 4 = k by omega]
  have OL : opL xs = if opE xs = 0 then xs.take k else [] := by unfold opL; rw [hn, show n - 4 = k by omega]
  have HB := hide (fun (w' : World) (o : Old w w') => (Y.mono o).front k (by omega))
  have HR := hide (fun (w' : World) (o : Old w w') => rd_drop (Y.rd.mono o) k)
  have HLD : Hid ((xs.drop k).length = n - k) := by rw [Hid, List.length_drop, hn]
  have HLT : Hid ((xs.take k).length = k) := by rw [Hid, List.length_take, hn]; omega
  have HC := hide (show n ≤ 100000 by omega)
  have q0 : (0 : Int) ≤ k := by omega
  have hcap := Y.room
  have q1 : (k : Int) ≤ cap := by omega
  have q2 : k ≤ cap := by omega
  have q4 : 1 ≤ cap - k := by omega
  have q5 : (k : Int) ≤ n := by omega
  have q6 : k ≤ n := by omega
  have q7 : k < cap := by omega
  have q8 : ¬ cap = k := by omega
  have ek' : wrap64 ((n : Int) - 4) = (k : Int) := by have := HS.out; unfold wrap64; omega
  obtain ⟨B, hB⟩ : ∃ B, B = decide (xs.drop k = le4 (crc (xs.take k))) := ⟨_, rfl⟩
  have HBB := hide hB
  have F2 : Hid (B = false → ∀ w', Old w w' → OpR w xs (.returned (.tuple #[.slice none 0 0, .int .i64 2])) w') := by
    intro hb w' o
    refine OpR.bad ?_ (by omega) o
    rw [HE, if_pos]
    intro e
    rw [hB, decide_eq_false_iff_not] at hb
    exact hb e.symm
  have F0 : Hid (B = true → ∀ w', Old w w' → OpR w xs (.returned (.tuple #[.slice (some ⟨b, off, none⟩) k cap, .int .i64 0])) w') := by
    intro hb w' o
    rw [hB, decide_eq_true_iff] at hb
    have h0 : opE xs = 0 := by rw [HE, if_neg (by simpa using hb.symm)]
    unfold OpR
    rw [OL, h0, if_pos rfl]
    exact ⟨_, _, by rw [HLT.out], by rw [HLT.out]; exact q2, (HB.out w' o).rd, o⟩
  clear Y hn hk HE OL hB hcap h1 h2
  go_enter Try.func67, Try.ntmps67
  go_wp2_with fail
  simp only [ek']
  refine Ssz.region (Ext := Old) 9 (fun w' => Old w w') (Ssz.Apart []) [14, 15, 16, 17, 18, 19, 20, 21, 22]
    [(14, Ssx.cst (.slice (some ⟨b, off, none⟩) n cap)), (15, Ssx.cst (.int .i64 (k : Int))), (16, Ssx.cst (.slice (some ⟨b, off + k, none⟩) (n - k) (cap - k))), (17, Ssx.cst (.slice (some ⟨b, off, none⟩) n cap)), (18, Ssx.cst (.int .i64 (k : Int))), (19, Ssx.cst (.slice (some ⟨b, off, none⟩) k cap)), (20, X23 (xs.take k)), (21, Ssx.cst (.bool B)), (22, Ssx.cst (.bool (!B)))]
    [] (by kernel_rfl) (by kernel_rfl) (by kernel_rfl) (by simp) (by kernel_rfl) (by intro p hp; cases hp) (by kernel_rfl) (by kernel_rfl) Old.refl (Old.of_drewN _ _) ?apart ?good ?behind
  case apart => exact ⟨fun s hs => by simp at hs, fun s hs => by simp at hs⟩
  case good =>
    have hE : ∀ w w' : World, Old w w' → w.heap.size ≤ w'.heap.size := fun _ _ h => h.size
    refine And.intro (.inr ⟨by kernel_rfl, Ssz.keep (Ssx.mv Old.refl rfl rfl (fun _ _ h => h)) hE (by kernel_rfl)⟩) ?_
    refine And.intro (.inr ⟨by kernel_rfl, Ssz.keep (Ssx.mv Old.refl rfl rfl (fun _ _ h => h)) hE (by kernel_rfl)⟩) ?_
    refine And.intro (.inr ⟨by kernel_rfl, Ssz.keep (Ssx.val2 Old.refl (x := 14) (y := 15) (.slice (some ⟨b, off, none⟩) n cap) (.int .i64 (k : Int)) (by simp [Op.operands]) (by simp [Op.operands]) rfl (fun _ _ h => h) (fun _ _ h => h) (fun ρ h1 h2 hc w => by unfold execOp; simp [h1, h2, q0, q5, q8, go_sem]) (fun _ => rfl)) hE (by kernel_rfl)⟩) ?_
    refine And.intro (.inr ⟨by kernel_rfl, Ssz.keep (Ssx.mv Old.refl rfl rfl (fun _ _ h => h)) hE (by kernel_rfl)⟩) ?_
    refine And.intro (.inr ⟨by kernel_rfl, Ssz.keep (Ssx.mv Old.refl rfl rfl (fun _ _ h => h)) hE (by kernel_rfl)⟩) ?_
    refine And.intro (.inr ⟨by kernel_rfl, Ssz.keep (Ssx.val2 Old.refl (x := 17) (y := 18) (.slice (some ⟨b, off, none⟩) n cap) (.int .i64 (k : Int)) (by simp [Op.operands]) (by simp [Op.operands]) rfl (fun _ _ h => h) (fun _ _ h => h) (fun ρ h1 h2 hc w => by unfold execOp; simp [h1, h2, q0, q1, go_sem]) (fun _ => rfl)) hE (by kernel_rfl)⟩) ?_
    refine And.intro (.inr ⟨by kernel_rfl, Ssz.keep (Ssx.call rfl fun a' w' hC hop => ⟨66, #[.slice (some ⟨b, off, none⟩) k cap], ?_, (checkBytes_any _ k cap (xs.take k) w' (HB.out w' hC)).mono fun _ _ ⟨g, h1, _, h3, h4⟩ => ⟨_, h1, hC.trans h4, h4, g, rfl, h3⟩⟩) hE (by kernel_rfl)⟩) ?_
    · have h0 : a'.eval (.tmp 19) = .slice (some ⟨b, off, none⟩) k cap := hop 19 (by simp [Op.operands, Call.operands])
      simp [Act.eval] at h0
      simp [h0, go_sem]
    refine And.intro (.inr ⟨by kernel_rfl, Ssz.keep (equalG HR.out HLD.out HC.out HBB.out rfl rfl (fun _ _ h => h) (fun _ _ h => h) (fun _ => rfl)) hE (by kernel_rfl)⟩) ?_
    refine And.intro (.inr ⟨by kernel_rfl, Ssz.keep (Ssx.val1 Old.refl (x := 21) (.bool B) (by simp [Op.operands]) rfl (fun _ _ h => h) (fun ρ h1 hc w => by unfold execOp; simp [h1, go_sem]) (fun _ => rfl)) hE (by kernel_rfl)⟩) ?_
    exact trivial
  case behind =>
    intro vals wb hC hD hv
    have v14 : vals 14 = _ := hv _ (.head _)
    have v15 : vals 15 = _ := hv _ (.tail _ (.head _))
    have v16 : vals 16 = _ := hv _ (.tail _ (.tail _ (.head _)))
    have v17 : vals 17 = _ := hv _ (.tail _ (.tail _ (.tail _ (.head _))))
    have v18 : vals 18 = _ := hv _ (.tail _ (.tail _ (.tail _ (.tail _ (.head _)))))
    have v19 : vals 19 = _ := hv _ (.tail _ (.tail _ (.tail _ (.tail _ (.tail _ (.head _))))))
    have v20 := hv _ (.tail _ (.tail _ (.tail _ (.tail _ (.tail _ (.tail _ (.head _)))))))
    have v21 : vals 21 = _ := hv _ (.tail _ (.tail _ (.tail _ (.tail _ (.tail _ (.tail _ (.tail _ (.head _))))))))
    have v22 : vals 22 = _ := hv _ (.tail _ (.tail _ (.tail _ (.tail _ (.tail _ (.tail _ (.tail _ (.tail _ (.head _)))))))))
    simp only [Ssa.putAll, List.map_cons, List.map_nil, List.foldl_cons, List.foldl_nil, List.setIfInBounds_toArray, List.set_cons_succ, List.set_cons_zero, v14, v15, v16, v17, v18, v19, v21, v22, List.drop_succ_cons, List.drop_zero]
    have OO := hide hC
    clear hC hD hv v20 v14 v15 v16 v17 v18 v19 v21 v22
    cases B
    · have G := hide (F2.out rfl _ OO.out)
      go_wp2
      go_ret2
      exact G.out
    · have G := hide (F0.out rfl _ OO.out)
      go_wp2
      go_ret2
      exact G.out

theorem OwnsB.lit {w : World} {base : Nat} {v : Value} {xs : List Nat} (h : OwnsB w base v xs) : ∃ a cap, v = .slice a xs.length cap ∧ xs.length ≤ cap ∧ Rd w a (nums .u8 xs) ∧ ∀ x, a = some x → ∃ g, x = ⟨g, 0, Option.none⟩ ∧ base ≤ g ∧ g < w.heap.size := by
  obtain ⟨a, cap, e, hc, rd⟩ := h.rd
  refine ⟨a, cap, e, hc, rd, ?_⟩
  rintro x rfl
  have hl := fun g hg => h.lt (g := g) hg
  rcases h.2 with ⟨e2, _⟩ | ⟨g, cap2, cur, e2, h1, h2, _⟩
  · rw [e] at e2; cases e2
  · rw [e] at e2
    cases e2
    exact ⟨g, rfl, h1, (Array.getElem?_eq_some_iff.1 h2).1⟩

set_option maxHeartbeats 2000000 in
theorem look_any (a : Option Addr) (n cap : Nat) (xs : List Nat) (w : World) (Y : By14 w a n cap xs) :
    Calls Try.prog 26 #[.slice a n cap] w fun e w' => ∃ v O, e = .returned v ∧ Old w w' ∧ (∀ i, O i → w.heap.size ≤ i) ∧ EyeD v (opL xs) (opE xs) w' O := by
  have C1 := hide (opened_any a n cap xs w Y)
  have HX := hide (opL_lt Y.each)
  have HL := hide (opL_len xs)
  have HE : Hid (opE xs ≠ 0 → opL xs = []) := fun h => by unfold opL; rw [if_neg h]
  clear Y
  unfold OpR at C1
  generalize opE xs = er at *
  generalize opL xs = l at *
  go_enter Try.func26, Try.ntmps26
  go_wp2_with fail
  refine C1.out.mono ?_
  rintro e w1 ⟨a1, k1, rfl, hk, rd, o1⟩
  have C2 := hide (clone_any a1 l.length k1 l w1 rfl rd (by have := HL.out; omega))
  have O1 := hide o1
  clear C1 rd o1 hk
  go_wp2_with fail
  refine C2.out.mono ?_
  rintro e w2 ⟨v, rfl, ow, o2⟩
  obtain ⟨a2, k2, rfl, hk2, rd2, lit⟩ := ow.lit
  have hz1 := O1.out.size
  have hz2 := o2.size
  have R : Row (w2.alloc (.cells #[.slice a2 l.length k2, .int .i64 er] 107)) w2.heap.size 107 [.slice a2 l.length k2, .int .i64 er] := Row.new w2 107 [.slice a2 l.length k2, .int .i64 er]
  have P : Hid (EyeD (.pointer (some ⟨w2.heap.size, 0, none⟩)) l er (w2.alloc (.cells #[.slice a2 l.length k2, .int .i64 er] 107)) (fun i => i = w2.heap.size ∨ ∃ x, 0 < l.length ∧ a2 = some x ∧ x.block = i)) :=
    ⟨w2.heap.size, a2, k2, l, rfl, fun i => Iff.rfl, R, hk2, rd2.mono (Old.of_alloc _ _), fun x _ hx => by
      obtain ⟨g, rfl, _, h⟩ := lit x hx
      show g ≠ w2.heap.size
      omega, HL.out, HX.out, fun _ => rfl, HE.out, fun x hx => by
      obtain ⟨g, rfl, _⟩ := lit x hx
      exact ⟨g, 0, rfl⟩⟩
  have HO : Hid (∀ i, (i = w2.heap.size ∨ ∃ x, 0 < l.length ∧ a2 = some x ∧ x.block = i) → w.heap.size ≤ i) := by
    intro i hi
    rcases hi with rfl | ⟨x, _, hx, rfl⟩
    · omega
    · obtain ⟨g, rfl, h, _⟩ := lit x hx
      show w.heap.size ≤ g
      omega
  have OO := hide ((O1.out.trans o2).alloc (.cells #[.slice a2 l.length k2, .int .i64 er] 107))
  clear ow o2 hk2 rd2 lit R hz1 hz2 C2
  go_wp2
  go_ret
  exact ⟨_, _, rfl, OO.out, HO.out, P.out⟩

theorem addN (a : Option Addr) (n c : Nat) (w : World) : Calls Try.prog 87 #[.pointer none, .slice a n c] w fun e w' => e = .returned (.pointer none) ∧ w' = w := by
  go_enter Try.func87, Try.ntmps87
  go_wp2
  go_ret
  exact ⟨rfl, rfl⟩

theorem smallN_any (n : Int) (w : World) : Calls Try.prog 55 #[.pointer none, .int .i64 n] w fun e w' => e = .returned (.pointer none) ∧ Old w w' := by
  obtain ⟨z, hz⟩ : ∃ z : Nat, IntKind.u64.wrap n = (z : Int) := ⟨(n % 18446744073709551616).toNat, by show n % 18446744073709551616 = _; omega⟩
  have C1 : Hid (Calls Try.prog 88 #[.int .u64 (z : Int), .int .i64 4] w fun e w' => ∃ g, e = .returned (.slice (some ⟨g, 0, none⟩) 4 4) ∧ w.heap.size ≤ g ∧ Row w' g 5 (nums .u8 (leB 4 z)) ∧ Old w w') := lowest_any z 4 (by omega) w
  have hz' : n % 18446744073709551616 = (z : Int) := hz
  go_enter Try.func55, Try.ntmps55
  go_wp2_with fail
  refine C1.out.mono ?_
  rintro e w1 ⟨g, rfl, _, _, o⟩
  have OO := hide o
  clear o C1
  go_wp2_with fail
  refine (addN _ _ _ _).mono ?_
  rintro e w2 ⟨rfl, rfl⟩
  go_wp2
  go_ret
  exact ⟨rfl, OO.out⟩

theorem greatN_any (n : Nat) (w : World) : Calls Try.prog 89 #[.pointer none, .int .u64 (n : Nat)] w fun e w' => e = .returned (.pointer none) ∧ Old w w' := by
  have C1 : Hid (Calls Try.prog 88 #[.int .u64 (n : Int), .int .i64 8] w fun e w' => ∃ g, e = .returned (.slice (some ⟨g, 0, none⟩) 8 8) ∧ w.heap.size ≤ g ∧ Row w' g 5 (nums .u8 (leB 8 n)) ∧ Old w w') := lowest_any n 8 (by omega) w
  go_enter Try.func89, Try.ntmps89
  go_wp2_with fail
  refine C1.out.mono ?_
  rintro e w1 ⟨g, rfl, _, _, o⟩
  have OO := hide o
  clear o C1
  go_wp2_with fail
  refine (addN _ _ _ _).mono ?_
  rintro e w2 ⟨rfl, rfl⟩
  go_wp2
  go_ret
  exact ⟨rfl, OO.out⟩

theorem bytesN_any (b : Option Addr) (n cap : Nat) (w : World) : Calls Try.prog 90 #[.pointer none, .slice b n cap] w fun e w' => e = .returned (.pointer none) ∧ Old w w' := by
  have C1 := hide (smallN_any n w)
  go_enter Try.func90, Try.ntmps90
  go_wp2_with fail
  refine C1.out.mono ?_
  rintro e w1 ⟨rfl, o⟩
  have OO := hide o
  clear o C1
  go_wp2_with fail
  refine (addN _ _ _ _).mono ?_
  rintro e w2 ⟨rfl, rfl⟩
  go_wp2
  go_ret
  exact ⟨rfl, OO.out⟩

theorem sealN_any (w : World) : Calls Try.prog 25 #[.pointer none] w fun e w' => ∃ a cap, e = .returned (.tuple #[.slice a 0 cap, .int .i64 1]) ∧ Old w w' := by
  go_enter Try.func25, Try.ntmps25
  go_wp2
  go_ret2
  exact ⟨none, 0, rfl, Old.refl _⟩

theorem takeN (n : Int) (w : World) : Calls Try.prog 97 #[.pointer none, .int .i64 n] w fun e w' => e = .returned (.slice none 0 0) ∧ w' = w := by
  go_enter Try.func97, Try.ntmps97
  go_wp2
  go_ret
  exact ⟨rfl, rfl⟩
theorem numberN (w : World) : Calls Try.prog 96 #[.slice none 0 0] w fun e w' => e = .returned (.int .u64 0) ∧ w' = w := number_any none 0 0 [] (by simp) rfl (by omega) w (Rd.nil _)

theorem eSmallN_any (w : World) : Calls Try.prog 69 #[.pointer none] w fun e w' => e = .returned (.int .i64 0) ∧ w' = w := by
  go_enter Try.func69, Try.ntmps69
  go_wp2_with fail
  refine (takeN _ _).mono ?_
  rintro e w1 ⟨rfl, rfl⟩
  go_wp2_with fail
  refine (numberN _).mono ?_
  rintro e w1 ⟨rfl, rfl⟩
  go_wp2
  go_ret
  exact ⟨rfl, rfl⟩
theorem eGreatN_any (w : World) : Calls Try.prog 98 #[.pointer none] w fun e w' => e = .returned (.int .u64 0) ∧ w' = w := by
  go_enter Try.func98, Try.ntmps98
  go_wp2_with fail
  refine (takeN _ _).mono ?_
  rintro e w1 ⟨rfl, rfl⟩
  go_wp2_with fail
  refine (numberN _).mono ?_
  rintro e w1 ⟨rfl, rfl⟩
  go_wp2
  go_ret
  exact ⟨rfl, rfl⟩
theorem eBytesN_any (w : World) : Calls Try.prog 99 #[.pointer none] w fun e w' => e = .returned (.slice none 0 0) ∧ w' = w := by
  go_enter Try.func99, Try.ntmps99
  go_wp2_with fail
  refine (eSmallN_any _).mono ?_
  rintro e w1 ⟨rfl, rfl⟩
  go_wp2_with fail
  refine (takeN _ _).mono ?_
  rintro e w1 ⟨rfl, rfl⟩
  go_wp2
  go_ret
  exact ⟨rfl, rfl⟩
theorem eEndN_any (w : World) : Calls Try.prog 28 #[.pointer none] w fun e w' => e = .returned (.int .i64 1) ∧ w' = w := by
  go_enter Try.func28, Try.ntmps28
  go_wp2
  go_ret
  exact ⟨rfl, rfl⟩

theorem old_of_same {P : Ending → Prop} {w : World} {e : Ending} {w' : World} (h : P e ∧ w' = w) : P e ∧ Old w w' := ⟨h.1, h.2 ▸ Old.refl _⟩
def letterK : LetterK where
  Pap := PapD
  Eye := EyeD
  papIn := fun h => h.isIn
  papStay := fun h hs hz => h.stay hs hz
  papPtr := fun ⟨b, _, _, _, h, _⟩ => ⟨_, h⟩
  eyeIn := fun h => h.isIn
  eyeStay := fun h hs hz => h.stay hs hz
  eyePtr := fun ⟨b, _, _, _, h, _⟩ => ⟨_, h⟩
  blank := blank_any
  small := fun v st m O n w h _ hn => small_any v st m (m + 4) O n w h hn
  great := fun v st m O n w h _ hn => great_any v st m (m + 8) O n w h hn
  bytes := fun v st m O b n cap xs w h _ Y hn hb => bytes_any v st m (m + 4 + n) O b n cap xs w h Y hn hb
  seal_ := fun v st m O w h _ => seal_any v st m O w h
  look := fun b n cap xs w Y => look_any b n cap xs w Y
  eSmall := eSmall_any
  eGreat := eGreat_any
  eBytes := eBytes_any
  eEnd := eEnd_any
  check := fun b n cap xs w Y _ => (check_any b n cap xs w Y).mono fun _ _ h => old_of_same (P := fun e => e = _) h
  smallN := smallN_any
  greatN := greatN_any
  bytesN := bytesN_any
  sealN := sealN_any
  eSmallN := fun w => (eSmallN_any w).mono fun _ _ h => old_of_same (P := fun e => e = _) h
  eGreatN := fun w => (eGreatN_any w).mono fun _ _ h => old_of_same (P := fun e => e = _) h
  eBytesN := fun w => (eBytesN_any w).mono fun _ _ ⟨h1, h2⟩ => ⟨none, 0, h1, h2 ▸ Old.refl _⟩
  eEndN := fun w => (eEndN_any w).mono fun _ _ h => old_of_same (P := fun e => e = _) h
end Go.Proofs.Ytepchjpdfmleoaa

/-
  Package letter: an Eye's calls turn its own box alone; the bytes that it hands out lie apart from blocks that are told (S).
-/
namespace Go.Proofs.Ytepchjpdfmleoaa
open Go.RowKit Cn
set_option linter.unusedVariables false

/-- What a slice's places hold, in a block that is none of S. -/
def RdS (S : Nat → Prop) (w : World) (a : Option Addr) (vs : List Value) : Prop := Rd w a vs ∧ ∀ x, 0 < vs.length → a = some x → ¬ S x.block
theorem RdS.nil {S : Nat → Prop} {w : World} (a : Option Addr) : RdS S w a [] := ⟨Rd.nil a, fun x h => by simp at h⟩
theorem RdS.kept {S : Nat → Prop} {w w' : World} {a : Option Addr} {vs : List Value} (h : RdS S w a vs) (k : Kept S w w') : RdS S w' a vs := by
  refine ⟨h.1.same fun x hp hx => k.block _ (h.1.lt hx hp) (h.2 x hp hx), h.2⟩
theorem Kept.sub {S T : Nat → Prop} {w w' : World} (h : Kept S w w') (hs : ∀ i, S i → T i) : Kept T w w' := ⟨h.os, h.tape, h.output, h.size, fun k hk hn => h.block k hk fun hs' => hn (hs k hs')⟩
theorem Kept.then {S : Nat → Prop} {a b c : World} (h : Kept S a b) (k : Kept S b c) : Kept S a c :=
  ⟨k.os.trans h.os, k.tape.trans h.tape, k.output.trans h.output, Nat.le_trans h.size k.size, fun i hi hn => (k.block i (Nat.lt_of_lt_of_le hi h.size) hn).trans (h.block i hi hn)⟩
theorem Kept.same (S : Nat → Prop) (w : World) : Kept S w w := Kept.of_old (Old.refl w)

/-- An Eye, whose bytes lie in a block that is none of S. -/
def EyeF (S : Nat → Prop) (b : Nat) (l : List Nat) (er : Int) (w : World) : Prop :=
  ∃ (a : Option Addr) (k : Nat) (r : List Nat), EyeB w b a k r l er ∧ ∀ x, 0 < r.length → a = some x → ¬ S x.block
theorem EyeF.lt {S : Nat → Prop} {b : Nat} {l : List Nat} {er : Int} {w : World} (h : EyeF S b l er w) : b < w.heap.size := by
  obtain ⟨a, k, r, P, _⟩ := h
  exact P.row.lt
theorem EyeF.keep {S T : Nat → Prop} {b : Nat} {l : List Nat} {er : Int} {w w' : World} (h : EyeF S b l er w) (k : Kept T w w') (hb : ¬ T b) (hT : ∀ i, T i → S i) : EyeF S b l er w' := by
  obtain ⟨a, c, r, P, hS⟩ := h
  exact ⟨a, c, r, ⟨k.row P.row hb, P.room, P.rd.same (fun x hp hx => k.block _ (P.rd.lt hx hp) fun ht => hS x (by rwa [nums_length] at hp) hx (hT _ ht)), P.ne, P.len, P.each, P.ok, P.no, P.lit⟩, hS⟩
theorem EyeF.mono {S : Nat → Prop} {b : Nat} {l : List Nat} {er : Int} {w w' : World} (h : EyeF S b l er w) (o : Old w w') : EyeF S b l er w' := h.keep (T := fun _ => False) (Kept.of_old o) (fun h => h) (fun _ h => h.elim)
theorem EyeF.each {S : Nat → Prop} {b : Nat} {l : List Nat} {er : Int} {w : World} (h : EyeF S b l er w) (n : Nat) : ∀ x ∈ tkS l er n, x < 256 := by
  obtain ⟨a, k, r, P, _⟩ := h
  by_cases he : er = 0
  · have := P.ok he
    subst this
    exact tkS_lt P.each er n
  · unfold tkS; rw [if_pos he]; simp
theorem EyeF.gone {S : Nat → Prop} {b : Nat} {l : List Nat} {er : Int} {w : World} (R : Row w b 107 [.slice none 0 0, .int .i64 er]) (he : er ≠ 0) : EyeF S b l er w :=
  ⟨none, 0, [], ⟨R, Nat.le_refl _, Rd.nil _, by simp, by simp, by simp, fun h => absurd h he, fun _ => rfl, by simp⟩, by simp⟩

/-- What take hands back. -/
def TakeF (S : Nat → Prop) (b : Nat) (l : List Nat) (er : Int) (n : Nat) (w : World) (e : Ending) (w' : World) : Prop :=
  ∃ a k, e = .returned (.slice a (tkS l er n).length k) ∧ RdS S w' a (nums .u8 (tkS l er n)) ∧ (∀ x ∈ tkS l er n, x < 256) ∧ Kept (fun i => i = b) w w' ∧ EyeF S b (tkL l er n) (tkE l er n) w'

set_option maxHeartbeats 4000000 in
theorem takeF_any (S : Nat → Prop) (b : Nat) (hb : S b) (l : List Nat) (er : Int) (n : Nat) (hn : n ≤ 4294967295) (w : World) (h : EyeF S b l er w) :
    Calls Try.prog 97 #[.pointer (some ⟨b, 0, none⟩), .int .i64 (n : Int)] w fun e w' => TakeF S b l er n w e w' := by
  have HT := hide h
  obtain ⟨a, k, r, P, hS⟩ := h
  have HSS := hide hS
  have HB := hide hb
  have HP := hide P
  have c0 := P.row.cell (i := 0) rfl
  have c1 := P.row.cell (i := 1) rfl
  have f0 := P.row.free 0
  clear P hS hb
  by_cases he : er = 0
  · subst he
    obtain rfl := HP.out.ok rfl
    have t0 : ((0 : Int) != 0) = false := rfl
    by_cases hl : r.length < n
    · have E : tkS r 0 n = [] ∧ tkL r 0 n = [] ∧ tkE r 0 n = 3 := by unfold tkS tkL tkE; simp [hl]
      unfold TakeF
      rw [E.1, E.2.1, E.2.2]
      have t1 : decide ((r.length : Int) < (n : Int)) = true := decide_eq_true (by omega)
      have t1' : decide ((n : Int) > (r.length : Int)) = true := t1
      have t2 : decide (r.length < n) = true := decide_eq_true hl
      have C1 := hide (refuseE_any b _ 0 3 w HP.out.row)
      clear E HT hl
      go_enter Try.func97, Try.ntmps97
      go_wp2_with fail
      refine C1.out.mono ?_
      rintro e w1 ⟨rfl, g1, R1⟩
      have T : Hid (EyeF S b [] 3 w1) := EyeF.gone R1 (by omega)
      have G1 := hide (Kept.of_grown (O := fun i => i = b) g1 rfl)
      clear C1 g1 R1
      go_wp2
      go_ret
      exact ⟨none, 0, rfl, RdS.nil _, by simp, G1.out, T.out⟩
    · have E : tkS r 0 n = r.take n ∧ tkL r 0 n = r.drop n ∧ tkE r 0 n = 0 := by unfold tkS tkL tkE; simp [hl]
      unfold TakeF
      rw [E.1, E.2.1, E.2.2]
      have t1 : decide ((r.length : Int) < (n : Int)) = false := decide_eq_false (by omega)
      have t1' : decide ((n : Int) > (r.length : Int)) = false := t1
      have t2 : decide (r.length < n) = false := decide_eq_false hl
      have hk := HP.out.room
      have q0 : (0 : Int) ≤ n := by omega
      have q1 : (n : Int) ≤ k := by omega
      have q2 : (n : Int) ≤ r.length := by omega
      have lt : (r.take n).length = n := by rw [List.length_take]; omega
      have ld : (r.drop n).length = r.length - n := by rw [List.length_drop]
      have HLT := hide lt
      have HLD := hide ld
      rw [lt]
      clear E HT lt ld
      have fin : ∀ (a' : Option Addr), (0 < r.length - n → ∃ b0 off, a = some ⟨b0, off, none⟩ ∧ a' = some ⟨b0, off + n, none⟩) → (∀ x, a' = some x → ∃ b0 off, x = ⟨b0, off, none⟩) → Hid (Kept (fun i => i = b) w (w.setCell ⟨b, 0, none⟩ (.slice a' (r.length - n) (k - n))) ∧ EyeF S b (r.drop n) 0 (w.setCell ⟨b, 0, none⟩ (.slice a' (r.length - n) (k - n)))) ∧ Hid (RdS S (w.setCell ⟨b, 0, none⟩ (.slice a' (r.length - n) (k - n))) a (nums .u8 (r.take n))) := by
        intro a' ha' hl'
        have g := grown_set w b 0 (.slice a' (r.length - n) (k - n))
        have R2 : Row (w.setCell ⟨b, 0, none⟩ (.slice a' (r.length - n) (k - n))) b 107 [.slice a' (r.drop n).length (k - n), .int .i64 0] := by rw [HLD.out]; exact HP.out.row.set 0 _
        have RA : Rd (w.setCell ⟨b, 0, none⟩ (.slice a' (r.length - n) (k - n))) a (nums .u8 r) := HP.out.rd.same fun x hp hx => g.block _ (HP.out.rd.lt hx hp) (fun e => HP.out.ne x (by rwa [nums_length] at hp) hx (by cases e; rfl))
        have bk : ∀ x', 0 < (r.drop n).length → a' = some x' → ∃ x, 0 < r.length ∧ a = some x ∧ x.block = x'.block := by
          intro x' hp hx'
          rw [HLD.out] at hp
          obtain ⟨b0, off, e1, e2⟩ := ha' hp
          rw [e2] at hx'
          cases hx'
          exact ⟨_, by omega, e1, rfl⟩
        refine ⟨⟨Kept.of_grown g rfl, a', k - n, r.drop n, ⟨R2, by rw [HLD.out]; omega, ?_, fun x hp hx => ?_, by rw [HLD.out]; have := HP.out.len; omega, fun x hx => HP.out.each x (List.mem_of_mem_drop hx), fun _ => rfl, fun h => absurd rfl h, hl'⟩, fun x hp hx => ?_⟩, rd_take RA n, fun x hp hx => ?_⟩
        · by_cases hp : 0 < r.length - n
          · skip
            obtain ⟨b1, off1, e1, rfl⟩ := ha' hp
            rw [e1] at RA
            exact rd_drop RA n
          · rw [List.drop_eq_nil_of_le (by omega)]
            exact Rd.nil _
        · obtain ⟨x0, h1, h2, h3⟩ := bk x hp hx
          rw [← h3]
          exact HP.out.ne x0 h1 h2
        · obtain ⟨x0, h1, h2, h3⟩ := bk x hp hx
          rw [← h3]
          exact HSS.out x0 h1 h2
        · rw [nums_length, HLT.out] at hp
          exact HSS.out x (by omega) hx
      have lx := HP.out.each
      have HX : Hid (∀ x ∈ r.take n, x < 256) := fun x hx => lx x (List.mem_of_mem_take hx)
      clear lx
      cases a with
      | none =>
        have hr : r.length = 0 := by
          rcases Nat.eq_zero_or_pos r.length with h | h
          · exact h
          · obtain ⟨_, _, _, e, _⟩ := HP.out.rd.num (i := 0) h
            cases e
        obtain ⟨F1, F2⟩ := fin none (fun h => by omega) (by simp)
        rw [show r.length - n = 0 by omega] at F1 F2
        clear fin HP
        go_enter Try.func97, Try.ntmps97
        go_wp2
        go_ret
        exact ⟨_, _, rfl, F2.out, HX.out, F1.out⟩
      | some x =>
        obtain ⟨b0, off, rfl⟩ := HP.out.lit x rfl
        by_cases hkn : k = n
        · obtain ⟨F1, F2⟩ := fin (some ⟨b0, off, none⟩) (fun h => by omega) (fun x hx => by cases hx; exact ⟨_, _, rfl⟩)
          clear fin HP
          subst hkn
          rw [Nat.sub_self, show r.length - k = 0 by omega] at F1 F2
          go_enter Try.func97, Try.ntmps97
          go_wp2
          go_ret
          exact ⟨_, _, rfl, F2.out, HX.out, F1.out⟩
        · obtain ⟨F1, F2⟩ := fin (some ⟨b0, off + n, none⟩) (fun h => ⟨b0, off, rfl, rfl⟩) (fun x hx => by cases hx; exact ⟨_, _, rfl⟩)
          clear fin HP
          have q4 : 1 ≤ k - n := by omega
          have q5 : n < k := by omega
          go_enter Try.func97, Try.ntmps97
          go_wp2
          go_ret
          exact ⟨_, _, rfl, F2.out, HX.out, F1.out⟩
  · have E : tkS l er n = [] ∧ tkL l er n = l ∧ tkE l er n = er := by unfold tkS tkL tkE; simp [he]
    unfold TakeF
    rw [E.1, E.2.1, E.2.2]
    have t1 : (er != 0) = true := by simpa using he
    clear E HP he
    go_enter Try.func97, Try.ntmps97
    go_wp2
    go_ret
    exact ⟨none, 0, rfl, RdS.nil _, by simp, Kept.same _ _, HT.out⟩

set_option maxHeartbeats 1000000 in
theorem eSmallF (S : Nat → Prop) (b : Nat) (hb : S b) (l : List Nat) (er : Int) (w : World) (h : EyeF S b l er w) :
    Calls Try.prog 69 #[.pointer (some ⟨b, 0, none⟩)] w fun e w' => e = .returned (.int .i64 ((nmN l er 4 : Nat) : Int)) ∧ Kept (fun i => i = b) w w' ∧ EyeF S b (tkL l er 4) (tkE l er 4) w' := by
  have C1 := hide (takeF_any S b hb l er 4 (by omega) w h)
  have C1' : Hid (Calls Try.prog 97 #[.pointer (some ⟨b, 0, none⟩), .int .i64 4] w fun e w' => TakeF S b l er 4 w e w') := C1
  have HL := hide (tkS_len l er 4)
  unfold nmN
  clear C1 h hb
  go_enter Try.func69, Try.ntmps69
  go_wp2_with fail
  refine C1'.out.mono ?_
  rintro e w1 ⟨a, k, rfl, rd, hx, T⟩
  have TT := hide T
  have C2 := hide (number_any a (tkS l er 4).length k (tkS l er 4) hx rfl (by have := HL.out; omega) w1 rd.1)
  have nl : numL (tkS l er 4) < 4294967296 := by
    have h1 := numL_lt hx
    have h2 : (256 : Nat) ^ (tkS l er 4).length ≤ 256 ^ 4 := Nat.pow_le_pow_right (by omega) HL.out
    exact Nat.lt_of_lt_of_le h1 (Nat.le_trans h2 (by decide))
  have e0 : IntKind.i64.wrap ((numL (tkS l er 4) : Nat) : Int) = ((numL (tkS l er 4) : Nat) : Int) := by rw [IntKind.wrap_i64]; omega
  have e1 : wrap64 ((numL (tkS l er 4) : Nat) : Int) = ((numL (tkS l er 4) : Nat) : Int) := by unfold wrap64; omega
  clear T rd hx C1' HL nl
  generalize hz : numL (tkS l er 4) = z at *
  have HZ := hide hz
  clear hz
  go_wp2_with fail
  refine C2.out.mono ?_
  rintro e w2 ⟨rfl, rfl⟩
  go_wp2
  go_ret
  exact ⟨by rw [HZ.out]; rfl, TT.out⟩

set_option maxHeartbeats 1000000 in
theorem eGreatF (S : Nat → Prop) (b : Nat) (hb : S b) (l : List Nat) (er : Int) (w : World) (h : EyeF S b l er w) :
    Calls Try.prog 98 #[.pointer (some ⟨b, 0, none⟩)] w fun e w' => e = .returned (.int .u64 ((nmN l er 8 : Nat) : Int)) ∧ Kept (fun i => i = b) w w' ∧ EyeF S b (tkL l er 8) (tkE l er 8) w' := by
  have C1 := hide (takeF_any S b hb l er 8 (by omega) w h)
  have C1' : Hid (Calls Try.prog 97 #[.pointer (some ⟨b, 0, none⟩), .int .i64 8] w fun e w' => TakeF S b l er 8 w e w') := C1
  have HL := hide (tkS_len l er 8)
  unfold nmN
  clear C1 h hb
  go_enter Try.func98, Try.ntmps98
  go_wp2_with fail
  refine C1'.out.mono ?_
  rintro e w1 ⟨a, k, rfl, rd, hx, T⟩
  have TT := hide T
  have C2 := hide (number_any a (tkS l er 8).length k (tkS l er 8) hx rfl (by have := HL.out; omega) w1 rd.1)
  clear T rd hx C1' HL
  generalize hz : numL (tkS l er 8) = z at *
  have HZ := hide hz
  clear hz
  go_wp2_with fail
  refine C2.out.mono ?_
  rintro e w2 ⟨rfl, rfl⟩
  go_wp2
  go_ret
  exact ⟨by rw [HZ.out]; rfl, TT.out⟩

set_option maxHeartbeats 1000000 in
theorem eBytesF (S : Nat → Prop) (b : Nat) (hb : S b) (l : List Nat) (er : Int) (w : World) (h : EyeF S b l er w) :
    Calls Try.prog 99 #[.pointer (some ⟨b, 0, none⟩)] w fun e w' => TakeF S b (tkL l er 4) (tkE l er 4) (nmN l er 4) w e w' := by
  have C1 := hide (eSmallF S b hb l er w h)
  have nl : nmN l er 4 < 256 ^ 4 := nmN_below er (h.each 4)
  have nl2 : nmN l er 4 ≤ 4294967295 := by omega
  generalize nmN l er 4 = n at *
  generalize tkL l er 4 = l2 at *
  generalize tkE l er 4 = er2 at *
  have HN := hide nl2
  have HB := hide hb
  clear h nl nl2 hb
  go_enter Try.func99, Try.ntmps99
  go_wp2_with fail
  refine C1.out.mono ?_
  rintro e w1 ⟨rfl, k1, q1⟩
  have C2 := hide (takeF_any S b HB.out l2 er2 n HN.out w1 q1)
  have K1 := hide k1
  clear C1 k1 q1
  go_wp2_with fail
  refine C2.out.mono ?_
  rintro e w2 ⟨a, k, rfl, rd, hx, k2, q2⟩
  have RD := hide rd
  have HX := hide hx
  have K2 := hide (K1.out.then k2)
  have Q2 := hide q2
  clear rd hx k2 q2 C2
  go_wp2
  go_ret
  exact ⟨a, k, rfl, RD.out, HX.out, K2.out, Q2.out⟩

set_option maxHeartbeats 1000000 in
theorem eEndF (S : Nat → Prop) (b : Nat) (l : List Nat) (er : Int) (w : World) (h : EyeF S b l er w) :
    Calls Try.prog 28 #[.pointer (some ⟨b, 0, none⟩)] w fun e w' => e = .returned (.int .i64 (endE l er)) ∧ Kept (fun i => i = b) w w' := by
  obtain ⟨a, k, r, P, hS⟩ := h
  have HP := hide P
  have c0 := P.row.cell (i := 0) rfl
  have c1 := P.row.cell (i := 1) rfl
  have C1 := hide (refuseE_any b _ er 2 w P.row)
  by_cases hr : 0 < r.length
  · have he : er = 0 := by
      by_cases he : er = 0
      · exact he
      · rw [P.no he] at hr; exact absurd hr (by simp)
    subst he
    obtain rfl := P.ok rfl
    have E : endE r 0 = 2 := by unfold endE; rw [if_neg (by omega), if_neg (by omega)]
    rw [E]
    have t1 : decide ((0 : Int) < (r.length : Int)) = true := decide_eq_true (by omega)
    have t1' : decide ((r.length : Int) > 0) = true := t1
    have t2 : decide (0 < r.length) = true := decide_eq_true hr
    clear E P hr
    go_enter Try.func28, Try.ntmps28
    go_wp2_with fail
    refine C1.out.mono ?_
    rintro e w1 ⟨rfl, g1, R1⟩
    have T := hide (Kept.of_grown (O := fun i => i = b) g1 rfl)
    have c3 := R1.cell (i := 1) rfl
    clear C1 g1 R1 c0 c1
    go_wp2
    go_ret
    exact ⟨rfl, T.out⟩
  · have E : endE l er = er := by
      unfold endE
      by_cases he : er = 0
      · subst he
        rw [if_neg (by omega), ← P.ok rfl, if_pos (by omega)]
      · rw [if_pos he]
    rw [E]
    have t1 : decide ((0 : Int) < (r.length : Int)) = false := decide_eq_false (by omega)
    have t1' : decide ((r.length : Int) > 0) = false := t1
    have t2 : decide (0 < r.length) = false := decide_eq_false hr
    clear E P hr C1 HP
    go_enter Try.func28, Try.ntmps28
    go_wp2
    go_ret
    exact ⟨rfl, Kept.same _ _⟩
end Go.Proofs.Ytepchjpdfmleoaa
