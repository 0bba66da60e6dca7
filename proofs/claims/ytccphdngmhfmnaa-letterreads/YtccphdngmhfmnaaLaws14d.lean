/-
  Layer 14's statement LetterWrites.
-/
import Derived.Test.YtccphdngmhfmnaaLaws14
namespace Go.Proofs.Ytccphdngmhfmnaa
open Go.RowKit Cn
set_option linter.unusedVariables false

theorem le4_length (n : Nat) : (le4 n).length = 4 := rfl

theorem neq_self (a : Addr) (w : World) : (binOp .neq 23 (.pointer (some a)) (.pointer (some a))).run Try.prog w = .ok (.bool false) w := by
  simp only [binOp]
  have h : (Op.equal 23 (.pointer (some a)) (.pointer (some a))).run Try.prog w = .ok true w := by
    unfold Op.equal Op.maxDepth
    rw [show (10000 : Nat) = 9999 + 1 from rfl]
    unfold Op.equalIn
    simp only [Sem.run_bind, run_underlying Try.underlying23, Result.andThen_ok]
    simp [sizeOf, sameAddr, go_sem]
  simp [h]

/-- A field to be written. -/
structure Prt where
  what : Int
  n : Int
  g : Nat
  b : Option Addr
  k : Nat
  cap : Nat
  xs : List Nat
def Prt.cells (p : Prt) : List Value := [.int .i64 p.what, .int .i64 p.n, .int .u64 (p.g : Nat), .slice p.b p.k p.cap]
/-- What is known of each. -/
structure Prt.Ok (w : World) (p : Prt) : Prop where
  what : -9223372036854775808 ≤ p.what ∧ p.what ≤ 9223372036854775807
  n : -9223372036854775808 ≤ p.n ∧ p.n ≤ 9223372036854775807
  g : p.g < 18446744073709551616
  by_ : By14 w p.b p.k p.cap p.xs
def IsParts (w : World) (v : Value) : Prop :=
  ∃ (a : Option Addr) (len cap : Nat) (ps : List Prt), v = .slice a len cap ∧ ps.length = len ∧ (∀ p ∈ ps, p.Ok w) ∧ (∀ (i : Nat) (p : Prt), ps[i]? = some p → ∃ b off, a = some ⟨b, off, none⟩ ∧ ∀ (j : Nat) (u : Value), p.cells[j]? = some u → w.cell? ⟨b, off + i * 4 + j, none⟩ = some u) ∧ len ≤ 9223372036854775807 ∧ len ≤ cap

/-- What is so between two fields. -/
structure Ws (K : LetterK) (w : World) (v : Value) (i : Nat) (txt : List Nat) (fits : Bool) (mm : Nat) (wr : World) : Prop where
  lw : Lw w [] (K.Pap v (if fits then some txt else none) mm) wr
  each : ∀ x ∈ txt, x < 256
  len : txt.length ≤ 70004 * i
  mem : mm ≤ 70004 * i

set_option maxRecDepth 100000 in
set_option maxHeartbeats 8000000 in
theorem walkK_LetterWrites (K : LetterK) (v0 : Value) (w : World) (w0 : IsParts w v0) :
    Calls Try.prog 3 #[v0] w fun e w' => e = .returned (.bool true) ∧ Old w w' := by
  obtain ⟨a, m, cm, ps, rfl, lp, hok, hcell, hM, hcm⟩ := w0
  have HP := hide (And.intro lp (And.intro hok hcell))
  have AW := hide (awake14 K)
  clear lp hok hcell
  go_enter Try.func3, Try.ntmps3
  go_wp2_with fail
  refine (Lw.blank (K := K) (Bxs.nil w)).mono ?_
  rintro e w1 ⟨v, rfl, L1⟩
  obtain ⟨ad, rfl⟩ : ∃ ad, v = .pointer (some ad) := by obtain ⟨O, _, _, _, q⟩ := L1; exact K.papPtr q
  have W1 : Hid (Ws K w (.pointer (some ad)) 0 [] true 0 w1) := ⟨L1, by simp, by simp, by simp⟩
  clear L1
  go_wp2_with fail
  rw [show Value.string { data := #[] } = Value.string (Ssb.bstr []) from rfl]
  go_loopw [4, 5, 6] (fun vs vf vi wr => ∃ (i : Nat) (txt : List Nat) (fits : Bool) (mm : Nat), i ≤ 30 ∧ i ≤ m ∧ vs = .string (Ssb.bstr txt) ∧ vf = .bool fits ∧ vi = .int .i64 (i : Int) ∧ Hid (Ws K w (.pointer (some ad)) i txt fits mm wr)) (fun _ _ vi _ => 30 - (intOf vi).toNat)
  case atStart => exact ⟨0, [], true, 0, by omega, by omega, rfl, rfl, rfl, W1⟩
  case round =>
    clear W1
    obtain ⟨i, txt, fits, mm, i30, im, rfl, rfl, rfl, R⟩ := hrel
    by_cases hl : i < m ∧ i < 30
    · obtain ⟨hl1, hl2⟩ := hl
      have t1 : decide ((i : Int) < (m : Int)) = true := by simp; omega
      have t1' : decide (i < m) = true := by simpa using hl1
      have t2 : decide ((i : Int) < 30) = true := by simp; omega
      have q0 : (0 : Int) ≤ i := by omega
      have q1 : (i : Int) < m := by omega
      have iw : wrap64 ((i : Int) + 1) = ((i + 1 : Nat) : Int) := by unfold wrap64; omega
      have hil : i < ps.length := by rw [HP.out.1]; exact hl1
      obtain ⟨p, hp⟩ : ∃ p, p = ps[i] := ⟨_, rfl⟩
      have OK : Hid (p.Ok w) := HP.out.2.1 p (by rw [hp]; exact List.getElem_mem hil)
      obtain ⟨bb, off, rfl, hc⟩ := HP.out.2.2 i p (by rw [hp]; exact List.getElem?_eq_getElem hil)
      have OW := hide R.out.lw.old
      obtain ⟨what, pn, pg, pb, pk, pcap, pxs⟩ := p
      have c0 : wr.cell? ⟨bb, off + i * 4, none⟩ = some (.int .i64 what) := (Below.cell OW.out (World.block_lt_of_cell? w _ (hc 0 _ rfl))).trans (hc 0 _ rfl)
      have c1 := (Below.cell OW.out (World.block_lt_of_cell? w _ (hc 1 _ rfl))).trans (hc 1 _ rfl)
      have c2 := (Below.cell OW.out (World.block_lt_of_cell? w _ (hc 2 _ rfl))).trans (hc 2 _ rfl)
      have c3 := (Below.cell OW.out (World.block_lt_of_cell? w _ (hc 3 _ rfl))).trans (hc 3 _ rfl)
      simp only at c1 c2 c3
      clear hc hp hil
      have LB := hide (R.out.lw.alloc (K.papS _ _ _) 28 [.int .i64 what, .int .i64 pn, .int .u64 (pg : Nat), .slice pb pk pcap] rfl)
      have HT := hide (And.intro R.out.each (And.intro R.out.len R.out.mem))
      by_cases hk : 70000 < pk
      · have t4 : decide ((70000 : Int) < (pk : Int)) = true := by simp; omega
        have t4' : decide ((pk : Int) > 70000) = true := t4
        go_wp2_with fail
        refine (AW.out _).mono ?_
        rintro e w3 ⟨rfl, o3⟩
        have O3 := hide (LB.out.old.trans o3)
        clear LB o3 AW c0 c1 c2 c3
        go_wp2
        go_ret
        exact ⟨rfl, O3.out⟩
      have t4 : decide ((70000 : Int) < (pk : Int)) = false := by simp; omega
      have t4' : decide ((pk : Int) > 70000) = false := t4
      have HK : Hid (pk ≤ 70000) := by show _ ≤ _; omega
      have tp := neq_self ad
      have MB : Hid (mm ≤ 4000000) := by have := HT.out.2.2; show _ ≤ _; omega
      clear hk R
      by_cases h0 : what = 0
      · subst h0
        by_cases hn0 : 0 ≤ pn
        · obtain ⟨k, rfl⟩ : ∃ k : Nat, pn = (k : Int) := ⟨pn.toNat, by omega⟩
          have kb : k ≤ 9223372036854775807 := by have := OK.out.n; simp only at this; omega
          have C2 := hide (fun wr : World => refSmall14_any k kb wr)
          have AT := add_texts txt (le4 k) (by have := HT.out.2.1; rw [le4_length]; omega)
          have t5 : decide ((0 : Int) ≤ (k : Int)) = true := by simp
          have t5' : decide ((k : Int) ≥ 0) = true := t5
          have HA : Hid (∀ x ∈ txt ++ le4 k, x < 256) := fun x hx => (List.mem_append.1 hx).elim (HT.out.1 x) (le4_lt k x)
          have HLn : Hid ((txt ++ le4 k).length ≤ 70004 * (i + 1)) := by have := HT.out.2.1; show _ ≤ _; rw [List.length_append, le4_length]; omega
          have HMm : Hid (mm + 4 ≤ 70004 * (i + 1)) := by have := HT.out.2.2; show _ ≤ _; omega
          by_cases hn1 : k < 4294967296
          · have t6 : decide ((k : Int) < 4294967296) = true := by simp; omega
            have EP : Hid (smallP (if fits then some txt else none) (k : Int) = if fits then some (txt ++ le4 k) else none) := by
              show _ = _
              unfold smallP
              rw [if_pos ⟨by omega, by omega⟩]
              cases fits <;> rfl
            clear hn0 hn1 kb
            go_wp2_with fail
            refine (LB.out.small (k : Int) MB.out (by have := OK.out.n; simp only at this; exact this)).mono ?_
            rintro e w3 ⟨rfl, L3⟩
            rw [EP.out] at L3
            have L3 := hide L3
            clear LB EP
            have d1 := (L3.out.row 0 rfl).cell (i := 1) rfl
            cases fits
            all_goals
              go_wp2_with fail
              refine (C2.out _).mono ?_
              rintro e w4 ⟨rfl, o4⟩
              have L4 := hide ((L3.out.mono (K.papS _ _ _) o4).take 0)
              clear L3 o4 d1 C2
              go_wp2_with fail
              exact ⟨⟨i + 1, _, _, _, by omega, by omega, rfl, rfl, by simp, ⟨L4.out, HA.out, HLn.out, HMm.out⟩⟩, by simp [intOf]; omega⟩
          · have t6 : decide ((k : Int) < 4294967296) = false := by simp; omega
            have EP : Hid (smallP (if fits then some txt else none) (k : Int) = if false then some (txt ++ le4 k) else none) := by
              show _ = _
              unfold smallP
              rw [if_neg (by omega)]
              rfl
            clear hn0 hn1 kb
            go_wp2_with fail
            refine (LB.out.small (k : Int) MB.out (by have := OK.out.n; simp only at this; exact this)).mono ?_
            rintro e w3 ⟨rfl, L3⟩
            rw [EP.out] at L3
            have L3 := hide L3
            clear LB EP
            have d1 := (L3.out.row 0 rfl).cell (i := 1) rfl
            cases fits
            all_goals
              go_wp2_with fail
              refine (C2.out _).mono ?_
              rintro e w4 ⟨rfl, o4⟩
              have L4 := hide ((L3.out.mono (K.papS _ _ _) o4).take 0)
              clear L3 o4 d1 C2
              go_wp2_with fail
              exact ⟨⟨i + 1, _, _, _, by omega, by omega, rfl, rfl, by simp, ⟨L4.out, HA.out, HLn.out, HMm.out⟩⟩, by simp [intOf]; omega⟩
        · have t5 : decide ((0 : Int) ≤ pn) = false := by simpa using hn0
          have t5' : decide (pn ≥ 0) = false := t5
          have AT : ∀ w : World, (Op.stringOp .add (Ssb.bstr txt) { data := #[46, 46, 46, 46] }).run Try.prog w = .ok (.string (Ssb.bstr (txt ++ [46, 46, 46, 46]))) w := fun w => add_texts txt [46, 46, 46, 46] (by have := HT.out.2.1; simp; omega) w
          have HA : Hid (∀ x ∈ txt ++ [46, 46, 46, 46], x < 256) := fun x hx => (List.mem_append.1 hx).elim (HT.out.1 x) (fun h => by simp at h; omega)
          have HLn : Hid ((txt ++ [46, 46, 46, 46]).length ≤ 70004 * (i + 1)) := by have := HT.out.2.1; show _ ≤ _; simp; omega
          have HMm : Hid (mm + 4 ≤ 70004 * (i + 1)) := by have := HT.out.2.2; show _ ≤ _; omega
          have EP : Hid (smallP (if fits then some txt else none) pn = if false then some (txt ++ [46, 46, 46, 46]) else none) := by
            show _ = _
            unfold smallP
            rw [if_neg (by omega)]
            rfl
          clear hn0
          go_wp2_with fail
          refine (LB.out.small pn MB.out (by have := OK.out.n; simp only at this; exact this)).mono ?_
          rintro e w3 ⟨rfl, L3⟩
          rw [EP.out] at L3
          have L3 := hide L3
          clear LB EP
          have d1 := (L3.out.row 0 rfl).cell (i := 1) rfl
          have L4 := hide (L3.out.take 0)
          cases fits
          all_goals
            go_wp2_with fail
            exact ⟨⟨i + 1, _, _, _, by omega, by omega, rfl, rfl, by simp, ⟨L4.out, HA.out, HLn.out, HMm.out⟩⟩, by simp [intOf]; omega⟩
      by_cases h1 : what = 1
      · subst h1
        have C2 := hide (fun wr : World => refGreat14_any pg OK.out.g wr)
        have ll : (le8 pg).length = 8 := rfl
        have AT := add_texts txt (le8 pg) (by have := HT.out.2.1; rw [ll]; omega)
        have HA : Hid (∀ x ∈ txt ++ le8 pg, x < 256) := fun x hx => (List.mem_append.1 hx).elim (HT.out.1 x) (le8_lt pg x)
        have HLn : Hid ((txt ++ le8 pg).length ≤ 70004 * (i + 1)) := by have := HT.out.2.1; show _ ≤ _; rw [List.length_append, ll]; omega
        have HMm : Hid (mm + 8 ≤ 70004 * (i + 1)) := by have := HT.out.2.2; show _ ≤ _; omega
        have EP : Hid (greatP (if fits then some txt else none) pg = if fits then some (txt ++ le8 pg) else none) := by
          show _ = _
          unfold greatP
          cases fits <;> rfl
        clear h0 ll
        go_wp2_with fail
        refine (LB.out.great pg MB.out OK.out.g).mono ?_
        rintro e w3 ⟨rfl, L3⟩
        rw [EP.out] at L3
        have L3 := hide L3
        clear LB EP
        have d2 := (L3.out.row 0 rfl).cell (i := 2) rfl
        go_wp2_with fail
        refine (C2.out _).mono ?_
        rintro e w4 ⟨rfl, o4⟩
        have L4 := hide ((L3.out.mono (K.papS _ _ _) o4).take 0)
        clear L3 o4 d2 C2
        go_wp2_with fail
        exact ⟨⟨i + 1, _, _, _, by omega, by omega, rfl, rfl, by simp, ⟨L4.out, HA.out, HLn.out, HMm.out⟩⟩, by simp [intOf]; omega⟩
      by_cases h2 : what = 2
      · subst h2
        have BY : By14 w pb pk pcap pxs := OK.out.by_
        have C2 := hide (fun (wr : World) (o : Old w wr) => refBytes14_any pxs pb pk pcap BY.each BY.len (by have := HK.out; omega) wr (BY.mono o).rd)
        have ll : (fieldB pxs).length = 4 + pk := by unfold fieldB; rw [List.length_append, BY.len]; rfl
        have AT := add_texts txt (fieldB pxs) (by have := HT.out.2.1; have := HK.out; rw [ll]; omega)
        have HA : Hid (∀ x ∈ txt ++ fieldB pxs, x < 256) := fun x hx => (List.mem_append.1 hx).elim (HT.out.1 x) (fun h => by
          unfold fieldB at h
          exact (List.mem_append.1 h).elim (le4_lt _ x) (BY.each x))
        have HLn : Hid ((txt ++ fieldB pxs).length ≤ 70004 * (i + 1)) := by have := HT.out.2.1; have := HK.out; show _ ≤ _; rw [List.length_append, ll]; omega
        have HMm : Hid (mm + 4 + pk ≤ 70004 * (i + 1)) := by have := HT.out.2.2; have := HK.out; show _ ≤ _; omega
        have EP : Hid (bytesP (if fits then some txt else none) pxs = if fits then some (txt ++ fieldB pxs) else none) := by
          show _ = _
          unfold bytesP
          cases fits <;> rfl
        have HBY := hide BY
        clear h0 h1 ll BY
        go_wp2_with fail
        refine (LB.out.bytes pb pk pcap pxs MB.out (HBY.out.mono LB.out.old) (by have := HK.out; omega) (fun a h0 ha => .inl (HBY.out.rd.lt ha (by simpa [nums] using h0)))).mono ?_
        rintro e w3 ⟨rfl, L3⟩
        rw [EP.out] at L3
        have L3 := hide L3
        clear LB EP
        have d3 := (L3.out.row 0 rfl).cell (i := 3) rfl
        go_wp2_with fail
        refine (C2.out _ L3.out.old).mono ?_
        rintro e w4 ⟨rfl, o4⟩
        have L4 := hide ((L3.out.mono (K.papS _ _ _) o4).take 0)
        clear L3 o4 d3 C2
        go_wp2_with fail
        exact ⟨⟨i + 1, _, _, _, by omega, by omega, rfl, rfl, by simp, ⟨L4.out, HA.out, HLn.out, HMm.out⟩⟩, by simp [intOf]; omega⟩
      have s0 : (what == 0) = false := by simpa using h0
      have s1 : (what == 1) = false := by simpa using h1
      have s2 : (what == 2) = false := by simpa using h2
      have L4 := hide (LB.out.take 0)
      have HA := hide HT.out.1
      have HLn : Hid (txt.length ≤ 70004 * (i + 1)) := by have := HT.out.2.1; show _ ≤ _; omega
      have HMm : Hid (mm ≤ 70004 * (i + 1)) := by have := HT.out.2.2; show _ ≤ _; omega
      clear h0 h1 h2
      go_wp2_with fail
      exact ⟨⟨i + 1, _, _, _, by omega, by omega, rfl, rfl, by simp, ⟨L4.out, HA.out, HLn.out, HMm.out⟩⟩, by simp [intOf]; omega⟩
    · have T1 : Hid ((decide ((i : Int) < (m : Int)) = false ∧ decide (i < m) = false) ∨ (decide ((i : Int) < (m : Int)) = true ∧ decide (i < m) = true ∧ decide ((i : Int) < 30) = false)) := by
        by_cases hm : i < m
        · exact .inr ⟨by simp; omega, by simpa using hm, by simp; omega⟩
        · exact .inl ⟨by simp; omega, by simpa using hm⟩
      have q0 : (0 : Int) ≤ i := by omega
      have MB : Hid (mm ≤ 4000000) := by have := R.out.mem; show _ ≤ _; omega
      have TL : Hid (txt.length ≤ 3000000) := by have := R.out.len; show _ ≤ _; omega
      clear hl
      cases fits
      · have C1 := hide (R.out.lw.sealed_ MB.out)
        clear R
        rcases T1.out with ⟨t1, t1'⟩ | ⟨t1, t1', t2⟩
        all_goals
          clear T1
          go_wp2_with fail
          refine C1.out.mono ?_
          rintro e w3 ⟨r, rfl, B3, _, _, bad⟩
          obtain ⟨ra, rc, rfl⟩ := bad (show (4 : Int) ≠ 0 by decide)
          have B3 := hide B3
          clear C1 bad
          rw [show sealE (if false then some txt else none) = 4 from rfl]
          go_wp2_with fail
          refine (AW.out _).mono ?_
          rintro e w4 ⟨rfl, o4⟩
          have O4 := hide (B3.out.old.trans o4)
          clear B3 o4 AW
          go_wp2
          go_ret
          exact ⟨by simp, O4.out⟩
      · have C1 := hide (R.out.lw.sealed_ MB.out)
        have EA := hide R.out.each
        rw [show (if true = true then some txt else none) = some txt from rfl] at C1
        have SZ : (Ssb.bstr txt).size = txt.length := bs_size txt
        clear R
        by_cases hz : 65536 < txt.length
        · have ES : sealE (some txt) = 6 := if_pos hz
          have z1 : decide ((65536 : Int) < ((Ssb.bstr txt).size : Int)) = true := by rw [SZ]; exact decide_eq_true (by omega)
          have z2 : decide (((Ssb.bstr txt).size : Int) > 65536) = true := z1
          have z3 : decide (65536 < (Ssb.bstr txt).size) = true := by rw [SZ]; exact decide_eq_true (by omega)
          clear SZ hz
          rcases T1.out with ⟨t1, t1'⟩ | ⟨t1, t1', t2⟩
          all_goals
            clear T1
            go_wp2_with fail
            refine C1.out.mono ?_
            rintro e w3 ⟨r, rfl, B3, _, _, bad⟩
            obtain ⟨ra, rc, rfl⟩ := bad (by rw [ES]; decide)
            have B3 := hide B3
            clear C1 bad
            rw [ES]
            go_wp2_with fail
            refine (AW.out _).mono ?_
            rintro e w4 ⟨rfl, o4⟩
            have O4 := hide (B3.out.old.trans o4)
            clear B3 o4 AW
            go_wp2
            go_ret
            exact ⟨by simp, O4.out⟩
        · have ES : sealE (some txt) = 0 := if_neg hz
          have z1 : decide ((65536 : Int) < ((Ssb.bstr txt).size : Int)) = false := by rw [SZ]; exact decide_eq_false (by omega)
          have z2 : decide (((Ssb.bstr txt).size : Int) > 65536) = false := z1
          have z3 : decide (65536 < (Ssb.bstr txt).size) = false := by rw [SZ]; exact decide_eq_false (by omega)
          have CS := hide (fun wr : World => refSealed14_any txt EA.out (by omega) wr)
          clear SZ hz
          rcases T1.out with ⟨t1, t1'⟩ | ⟨t1, t1', t2⟩
          all_goals
            clear T1
            go_wp2_with fail
            refine C1.out.mono ?_
            rintro e w3 ⟨r, rfl, B3, _, ok, _⟩
            obtain ⟨g, cg, rest, rfl, _, _, R3⟩ := ok ES
            rw [ES]
            rw [show sealS (some txt) = sealed txt from rfl] at R3 ⊢
            have B3 := hide B3
            have C0 := hide (fun y : After w3 => awake14 K y.to)
            have C2 := hide (fun y : After w3 => CS.out y.to)
            have CV : ∀ y : After w3, (convert 26 9 (.slice (some ⟨g, 0, none⟩) (sealed txt).length cg)).run Try.prog y.to = .ok (.string (Ssb.bstr (sealed txt))) y.to := fun y => Ssb.run_bstr Try.underlying26 Try.underlying5 Try.underlying9 rfl (fun i v hv => ⟨g, 0, rfl, by
              rw [Nat.zero_add]
              refine (R3.mono y.old).cell ?_
              rw [List.getElem?_append_left (List.getElem?_eq_some_iff.1 hv).1]
              exact hv⟩)
            have ne : Nonempty (After w3) := ⟨⟨_, Old.refl _⟩⟩
            clear C1 ok R3 AW CS
            generalize sealed txt = S at *
            go_wp2_with fail
            refine wp_region_calm (by kernel_rfl) (by kernel_rfl) ?_
            repeat (go_big_quiet_step (first | with_reducible exact calm_of (C0.out _) | with_reducible exact calm_of (C2.out _)))
            refine wpQuiet_nil ?_
            rintro _ ⟨⟨w4, o4⟩, rfl⟩
            have O4 := hide (B3.out.old.trans o4)
            go_wp2
            go_ret
            exact ⟨by simp, O4.out⟩
end Go.Proofs.Ytccphdngmhfmnaa
