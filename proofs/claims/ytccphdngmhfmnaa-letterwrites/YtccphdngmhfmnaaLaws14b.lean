/-
  Layer 14's statement LetterBent.
-/
import Derived.Test.YtccphdngmhfmnaaLaws14
import Derived.Test.YtccphdngmhfmnaaBentN
namespace Go.Proofs.Ytccphdngmhfmnaa
open Go.RowKit Cn
set_option linter.unusedVariables false

theorem xor_u8 : ∀ x : Nat, x < 256 → ∀ k : Nat, k < 8 → bits .xor .u8 (x : Int) ((2 ^ k : Nat) : Int) = ((x ^^^ 2 ^ k : Nat) : Int) := by decide +kernel
theorem xor_lt : ∀ x : Nat, x < 256 → ∀ k : Nat, k < 8 → x ^^^ 2 ^ k < 256 := by decide +kernel
theorem sealed_lt {l : List Nat} (h : ∀ x ∈ l, x < 256) : ∀ x ∈ sealed l, x < 256 := by
  intro x hx
  unfold sealed at hx
  rcases List.mem_append.1 hx with h1 | h1
  · exact h x h1
  · exact le4_lt _ x h1
theorem fieldB_lt {l : List Nat} (h : ∀ x ∈ l, x < 256) : ∀ x ∈ fieldB l, x < 256 := by
  intro x hx
  unfold fieldB at hx
  rcases List.mem_append.1 hx with h1 | h1
  · exact le4_lt _ x h1
  · exact h x h1

theorem pow_u8 : ∀ j : Nat, j < 8 → ((2 : Int) ^ j % 256) = ((2 ^ j : Nat) : Int) := by decide +kernel
theorem Bxs.of_old {w wr : World} (o : Old w wr) : Bxs w [] wr := ⟨by simp, by simp, o⟩
theorem bad_bytes {K : LetterK} {w0 wr : World} {bs : List (Nat × TypeId × List Value)} {v : Value} (h : Lw w0 bs (K.Eye v [] 2) wr) : Calls Try.prog 24 #[v] wr fun e w' => ∃ a cap, e = .returned (.slice a 0 cap) ∧ Lw w0 bs (K.Eye v [] 2) w' := by
  have := h.eBytes
  rw [show nmN [] 2 4 = 0 by decide +kernel, show tkL [] 2 4 = [] by decide +kernel, show tkE [] 2 4 = 2 by decide +kernel, show tkS [] 2 0 = [] by decide +kernel, show tkL [] 2 0 = [] by decide +kernel, show tkE [] 2 0 = 2 by decide +kernel] at this
  exact this.mono fun _ _ ⟨a, cap, e, _, l⟩ => ⟨a, cap, e, l⟩
theorem bad_end {K : LetterK} {w0 wr : World} {bs : List (Nat × TypeId × List Value)} {v : Value} (h : Lw w0 bs (K.Eye v [] 2) wr) : Calls Try.prog 25 #[v] wr fun e w' => e = .returned (.int .i64 2) ∧ Lw w0 bs (K.Eye v [] 2) w' := by
  have := h.eEnd
  rw [show endE [] 2 = 2 by decide +kernel] at this
  exact this

/-- Behind the cut: at most 3000 bytes. -/
theorem bent_rest (K : LetterK) {w : World} {b : Option Addr} {n cap : Nat} {xs : List Nat} (Y : By14 w b n cap xs) (hn : n ≤ 3000) {wr : World} (o : Old w wr) {v : Value} (L : Lw w [] (K.Pap v (some []) 0) wr) :
    Calls Try.prog 14 #[v, .slice b n cap] wr fun e w' => e = .returned v ∧ Lw w [] (K.Pap v (some (fieldB xs)) (4 + n)) w' := by
  have := L.bytes b n cap xs (by omega) (Y.mono o) (by omega) (fun a h0 ha => .inl (Y.rd.lt ha (by simpa [nums] using h0)))
  rw [show bytesP (some []) xs = some (fieldB xs) by simp [bytesP], show 0 + 4 + n = 4 + n by omega] at this
  exact this

/-- Bytes of the call's own, of which one turns. -/
theorem bend_row {w : World} {g : Nat} {t : TypeId} {s : List Nat} {rest : List Value} (R : Row w g t (nums .u8 s ++ rest)) {k : Nat} (hk : k / 8 < s.length) : Row (w.setCell ⟨g, k / 8, none⟩ (.int .u8 ((s.getD (k / 8) 0 ^^^ 2 ^ (k % 8) : Nat) : Int))) g t (nums .u8 (bend s k) ++ rest) := by
  have := R.set (k / 8) (.int .u8 ((s.getD (k / 8) 0 ^^^ 2 ^ (k % 8) : Nat) : Int))
  rw [List.set_append_left _ _ (by simpa [nums] using hk)] at this
  rw [show (nums .u8 s).set (k / 8) (.int .u8 ((s.getD (k / 8) 0 ^^^ 2 ^ (k % 8) : Nat) : Int)) = nums .u8 (bend s k) by simp [nums, bend, List.map_set]] at this
  exact this

set_option maxRecDepth 100000 in
set_option maxHeartbeats 4000000 in
theorem bent_go (K : LetterK) (b : Option Addr) (n cap m : Nat) (xs : List Nat) (bit : Nat) (w : World) (Y : By14 w b m cap xs) (hm : m ≤ 3000) (hmn : m = if 3000 < n then 3000 else n) (hnc : n ≤ cap) (hb : bit < 65536) :
    Calls Try.prog 6 #[.slice b n cap, .int .u16 (bit : Nat)] w fun e w' => e = .returned (.bool true) ∧ Old w w' := by
  have C1 := hide (fun (wr : World) (o : Old w wr) (v : Value) L => bent_rest K Y hm (wr := wr) o (v := v) L)
  have AW := hide (awake14 K)
  have fl : (fieldB xs).length = m + 4 := by unfold fieldB; rw [List.length_append, Y.len]; simp [le4]; omega
  have hx := fieldB_lt Y.each
  have k1 : sealE (some (fieldB xs)) = 0 := by unfold sealE; simp; omega
  have k2 : (sealS (some (fieldB xs))).length = m + 8 := by show (sealed (fieldB xs)).length = _; unfold sealed; rw [List.length_append, fl]; simp [le4]
  obtain ⟨N, hN⟩ : ∃ N, N = m + 8 := ⟨_, rfl⟩
  rw [← hN] at k2
  obtain ⟨k, hk⟩ : ∃ k, k = bit % (8 * N) := ⟨_, rfl⟩
  have kl : k < 8 * N := by rw [hk]; exact Nat.mod_lt _ (by omega)
  have HE := hide (opE_bent (l := fieldB xs) hx (by omega) (k := k) (by rw [show (sealed (fieldB xs)).length = N from k2]; exact kl))
  have HL := hide (opL_bent (l := fieldB xs) hx (by omega) (k := k) (by rw [show (sealed (fieldB xs)).length = N from k2]; exact kl))
  have HX := hide (sealed_lt hx)
  have HM : Hid (m ≤ 3000 ∧ k < 8 * N ∧ N ≤ 3008) := ⟨hm, kl, by omega⟩
  have tk : Int.tmod (bit : Int) (8 * (N : Int)) = (k : Int) := by
    rw [hk, Int.tmod_eq_emod_of_nonneg (Int.natCast_nonneg _), show 8 * (N : Int) = ((8 * N : Nat) : Int) by simp]
    exact (Int.natCast_emod _ _).symm
  have e8 : wrap64 (8 * (N : Int)) = 8 * (N : Int) := by unfold wrap64; omega
  have eb : IntKind.i64.wrap (bit : Int) = (bit : Int) := by rw [IntKind.wrap_i64]; omega
  have K1 := hide k1
  have K2 := hide k2
  have KI : (k : Int) ≤ 24063 := by omega
  have K0 : (0 : Int) ≤ k := by omega
  by_cases h : 3000 < n
  · rw [if_pos h] at hmn
    have t1 : decide ((3000 : Int) < n) = true := by simp; omega
    have t1' : decide ((n : Int) > 3000) = true := t1
    have hc : (3000 : Int) ≤ cap := by omega
    have hc' : 3000 ≤ cap := by omega
    subst hmn
    clear h hnc hb hk kl k1 k2 fl hx Y hm hN
    go_enter Try.func6, Try.ntmps6
    go_wp2_with fail
    refine (Lw.blank (K := K) (Bxs.nil w)).mono ?_
    rintro e w1 ⟨v, rfl, L1⟩
    have L1 := hide L1
    go_wp2_with fail
    refine (C1.out _ L1.out.old _ L1.out).mono ?_
    rintro e w2 ⟨rfl, L2⟩
    have L2 := hide L2
    clear L1 C1
    go_wp2_with fail
    refine (L2.out.sealed_ (by have := HM.out; omega)).mono ?_
    rintro e w3 ⟨r, rfl, B3, _, ok, _⟩
    obtain ⟨g, cg, rest, rfl, lg, hcg, R⟩ := ok K1.out
    rw [K2.out] at hcg ⊢
    rw [K1.out]
    have LG : Hid (w.heap.size ≤ g) := Nat.le_trans L2.out.old.size lg
    have B3 := hide B3
    have R3 := hide R
    clear L2 ok R lg
    go_wp2_with fail
    refine (AW.out _).mono ?_
    rintro e w4 ⟨rfl, o4⟩
    have O4 := hide (B3.out.old.trans o4)
    have R4 := hide (R3.out.mono o4)
    clear B3 R3 o4 AW
    obtain ⟨S, hS⟩ : ∃ S, S = sealed (fieldB xs) := ⟨_, rfl⟩
    rw [show sealS (some (fieldB xs)) = S from hS.symm] at R4 K2
    rw [← hS] at HE HL HX
    have q8 : k / 8 < N := by have := HM.out.2.1; omega
    obtain ⟨x, hxx⟩ : ∃ x, x = S.getD (k / 8) 0 := ⟨_, rfl⟩
    have hil : k / 8 < S.length := by rw [K2.out]; exact q8
    have xl : x < 256 := by rw [hxx]; exact HX.out _ (by simp [List.getD, hil])
    have cx : w4.cell? ⟨g, k / 8, none⟩ = some (.int .u8 (x : Nat)) := R4.out.cell (by rw [List.getElem?_append_left (by simpa [nums] using hil), hxx]; simp [nums, List.getD, hil])
    have fx := R4.out.free (k / 8)
    have R5 := hide (bend_row R4.out hil)
    rw [← hxx] at R5
    have HB : Hid (∀ y ∈ bend S k, y < 256) := by
      intro y hy
      unfold bend at hy
      rcases List.mem_or_eq_of_mem_set hy with h1 | h1
      · exact HX.out y h1
      · rw [h1]
        exact xor_lt _ (by rw [← hxx]; exact xl) _ (by omega)
    have X1 := xor_u8 x xl (k % 8) (by omega)
    have X2 : IntKind.u8.wrap ((2 ^ (k % 8) : Nat) : Int) = ((2 ^ (k % 8) : Nat) : Int) := wu8 (Nat.pow_lt_pow_right (by omega) (by omega : k % 8 < 8))
    obtain ⟨p, hp⟩ : ∃ p, p = k / 8 := ⟨_, rfl⟩
    obtain ⟨j, hj⟩ : ∃ j, j = k % 8 := ⟨_, rfl⟩
    obtain ⟨y, hy⟩ : ∃ y, y = x ^^^ 2 ^ (k % 8) := ⟨_, rfl⟩
    have td : Int.tdiv (k : Int) 8 = (p : Int) := by rw [hp, Int.tdiv_eq_ediv_of_nonneg (Int.natCast_nonneg _)]; omega
    have tm : Int.tmod (k : Int) 8 = (j : Int) := by rw [hj, Int.tmod_eq_emod_of_nonneg (Int.natCast_nonneg _)]; omega
    have ej : IntKind.u64.wrap (j : Int) = (j : Int) := by rw [IntKind.wrap_u64]; omega
    have jl : (j : Int) ≤ 7 := by omega
    have j0 : (0 : Int) ≤ j := by omega
    rw [← hp] at cx fx R5 q8
    rw [← hj] at hy X1 X2 R5
    rw [← hy] at X1 R5
    have N0 : (N : Int) ≤ 3008 := by have := HM.out.2.2; omega
    have N1 : ((N : Int) == 0) = false := by simp; omega
    have N1' : (N == 0) = false := by simp; omega
    have N8 : (8 * (N : Int) == 0) = false := by simp; omega
    have p0 : (0 : Int) ≤ p := by omega
    have p1 : (p : Int) < N := by omega
    have X3 : bits BinOp.xor IntKind.u8 (x : Int) ((2 : Int) ^ j % 256) = (y : Int) := by rw [pow_u8 j (by omega)]; exact X1
    have O5 := hide (O4.out.grown (grown_set w4 g p (.int .u8 (y : Int))) LG.out)
    have Y5 := hide (By14.row R5.out (by rw [bend_length]; exact K2.out) hcg (by omega) HB.out)
    clear hp hj hy hxx xl hil hS R5 R4 O4
    go_wp2_with fail
    have C6 := hide (Lw.look (K := K) (Bxs.of_old O5.out) Y5.out)
    rw [HE.out, HL.out] at C6
    refine C6.out.mono ?_
    rintro e w6 ⟨u, rfl, L6⟩
    have L6 := hide L6
    clear C6 Y5 O5 X1 X2 X3 cx fx
    go_wp2_with fail
    refine (bad_bytes L6.out).mono ?_
    rintro e w7 ⟨a7, c7, rfl, L7⟩
    have L7 := hide L7
    clear L6
    go_wp2_with fail
    refine (bad_end L7.out).mono ?_
    rintro e w8 ⟨rfl, L8⟩
    have O8 := hide L8.old
    clear L7 L8
    go_wp2
    go_ret
    exact ⟨by simp, O8.out⟩
  · rw [if_neg h] at hmn
    have t1 : decide ((3000 : Int) < n) = false := by simp; omega
    have t1' : decide ((n : Int) > 3000) = false := t1
    subst hmn
    clear h hnc hb hk kl k1 k2 fl hx Y hm hN
    go_enter Try.func6, Try.ntmps6
    go_wp2_with fail
    refine (Lw.blank (K := K) (Bxs.nil w)).mono ?_
    rintro e w1 ⟨v, rfl, L1⟩
    have L1 := hide L1
    go_wp2_with fail
    refine (C1.out _ L1.out.old _ L1.out).mono ?_
    rintro e w2 ⟨rfl, L2⟩
    have L2 := hide L2
    clear L1 C1
    go_wp2_with fail
    refine (L2.out.sealed_ (by have := HM.out; omega)).mono ?_
    rintro e w3 ⟨r, rfl, B3, _, ok, _⟩
    obtain ⟨g, cg, rest, rfl, lg, hcg, R⟩ := ok K1.out
    rw [K2.out] at hcg ⊢
    rw [K1.out]
    have LG : Hid (w.heap.size ≤ g) := Nat.le_trans L2.out.old.size lg
    have B3 := hide B3
    have R3 := hide R
    clear L2 ok R lg
    go_wp2_with fail
    refine (AW.out _).mono ?_
    rintro e w4 ⟨rfl, o4⟩
    have O4 := hide (B3.out.old.trans o4)
    have R4 := hide (R3.out.mono o4)
    clear B3 R3 o4 AW
    obtain ⟨S, hS⟩ : ∃ S, S = sealed (fieldB xs) := ⟨_, rfl⟩
    rw [show sealS (some (fieldB xs)) = S from hS.symm] at R4 K2
    rw [← hS] at HE HL HX
    have q8 : k / 8 < N := by have := HM.out.2.1; omega
    obtain ⟨x, hxx⟩ : ∃ x, x = S.getD (k / 8) 0 := ⟨_, rfl⟩
    have hil : k / 8 < S.length := by rw [K2.out]; exact q8
    have xl : x < 256 := by rw [hxx]; exact HX.out _ (by simp [List.getD, hil])
    have cx : w4.cell? ⟨g, k / 8, none⟩ = some (.int .u8 (x : Nat)) := R4.out.cell (by rw [List.getElem?_append_left (by simpa [nums] using hil), hxx]; simp [nums, List.getD, hil])
    have fx := R4.out.free (k / 8)
    have R5 := hide (bend_row R4.out hil)
    rw [← hxx] at R5
    have HB : Hid (∀ y ∈ bend S k, y < 256) := by
      intro y hy
      unfold bend at hy
      rcases List.mem_or_eq_of_mem_set hy with h1 | h1
      · exact HX.out y h1
      · rw [h1]
        exact xor_lt _ (by rw [← hxx]; exact xl) _ (by omega)
    have X1 := xor_u8 x xl (k % 8) (by omega)
    have X2 : IntKind.u8.wrap ((2 ^ (k % 8) : Nat) : Int) = ((2 ^ (k % 8) : Nat) : Int) := wu8 (Nat.pow_lt_pow_right (by omega) (by omega : k % 8 < 8))
    obtain ⟨p, hp⟩ : ∃ p, p = k / 8 := ⟨_, rfl⟩
    obtain ⟨j, hj⟩ : ∃ j, j = k % 8 := ⟨_, rfl⟩
    obtain ⟨y, hy⟩ : ∃ y, y = x ^^^ 2 ^ (k % 8) := ⟨_, rfl⟩
    have td : Int.tdiv (k : Int) 8 = (p : Int) := by rw [hp, Int.tdiv_eq_ediv_of_nonneg (Int.natCast_nonneg _)]; omega
    have tm : Int.tmod (k : Int) 8 = (j : Int) := by rw [hj, Int.tmod_eq_emod_of_nonneg (Int.natCast_nonneg _)]; omega
    have ej : IntKind.u64.wrap (j : Int) = (j : Int) := by rw [IntKind.wrap_u64]; omega
    have jl : (j : Int) ≤ 7 := by omega
    have j0 : (0 : Int) ≤ j := by omega
    rw [← hp] at cx fx R5 q8
    rw [← hj] at hy X1 X2 R5
    rw [← hy] at X1 R5
    have N0 : (N : Int) ≤ 3008 := by have := HM.out.2.2; omega
    have N1 : ((N : Int) == 0) = false := by simp; omega
    have N1' : (N == 0) = false := by simp; omega
    have N8 : (8 * (N : Int) == 0) = false := by simp; omega
    have p0 : (0 : Int) ≤ p := by omega
    have p1 : (p : Int) < N := by omega
    have X3 : bits BinOp.xor IntKind.u8 (x : Int) ((2 : Int) ^ j % 256) = (y : Int) := by rw [pow_u8 j (by omega)]; exact X1
    have O5 := hide (O4.out.grown (grown_set w4 g p (.int .u8 (y : Int))) LG.out)
    have Y5 := hide (By14.row R5.out (by rw [bend_length]; exact K2.out) hcg (by omega) HB.out)
    clear hp hj hy hxx xl hil hS R5 R4 O4
    go_wp2_with fail
    have C6 := hide (Lw.look (K := K) (Bxs.of_old O5.out) Y5.out)
    rw [HE.out, HL.out] at C6
    refine C6.out.mono ?_
    rintro e w6 ⟨u, rfl, L6⟩
    have L6 := hide L6
    clear C6 Y5 O5 X1 X2 X3 cx fx
    go_wp2_with fail
    refine (bad_bytes L6.out).mono ?_
    rintro e w7 ⟨a7, c7, rfl, L7⟩
    have L7 := hide L7
    clear L6
    go_wp2_with fail
    refine (bad_end L7.out).mono ?_
    rintro e w8 ⟨rfl, L8⟩
    have O8 := hide L8.old
    clear L7 L8
    go_wp2
    go_ret
    exact ⟨by simp, O8.out⟩

theorem walkK_LetterBent (K : LetterK) (v0 v1 : Value) (w : World) (w0 : IsNums .u8 256 140737488351232 w v0) (w1 : IsInt .u16 v1) :
    Calls Try.prog 6 #[v0, v1] w fun e w' => e = .returned (.bool true) ∧ Old w w' := by
  obtain ⟨b, n, cap, xs, rfl, Y⟩ := By14.of w0
  obtain ⟨z, rfl, hz⟩ := w1
  have hb := bounds_u16 hz
  obtain ⟨bit, rfl⟩ : ∃ bit : Nat, z = (bit : Int) := ⟨z.toNat, by omega⟩
  by_cases h : 3000 < n
  · exact bent_go K b n cap 3000 (xs.take 3000) bit w (Y.cut 3000 (by omega)) (by omega) (by rw [if_pos h]) Y.room (by omega)
  · exact bent_go K b n cap n xs bit w Y (by omega) (by rw [if_neg h]) Y.room (by omega)
end Go.Proofs.Ytccphdngmhfmnaa
