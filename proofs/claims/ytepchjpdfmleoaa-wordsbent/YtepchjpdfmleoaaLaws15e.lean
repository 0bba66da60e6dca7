/-
  Layer 15's statement WordsBent.
-/
import Derived.Test.YtepchjpdfmleoaaLaws15d
import Derived.Test.YtepchjpdfmleoaaBentN
namespace Go.Proofs.Ytepchjpdfmleoaa
open Go.RowKit Cn Pn Wn Rn
set_option linter.unusedVariables false

theorem xor15 : ∀ x : Nat, x < 256 → ∀ k : Nat, k < 8 → bits .xor .u8 (x : Int) ((2 ^ k : Nat) : Int) = ((x ^^^ 2 ^ k : Nat) : Int) := by decide +kernel
theorem xor15_lt : ∀ x : Nat, x < 256 → ∀ k : Nat, k < 8 → x ^^^ 2 ^ k < 256 := by decide +kernel
theorem pow15 : ∀ j : Nat, j < 8 → ((2 : Int) ^ j % 256) = ((2 ^ j : Nat) : Int) := by decide +kernel
/-- Bytes of the call's own, of which one turns. -/
theorem bend15 {w : World} {g : Nat} {t : TypeId} {s : List Nat} {rest : List Value} (R : Row w g t (nums .u8 s ++ rest)) {k : Nat} (hk : k / 8 < s.length) : Row (w.setCell ⟨g, k / 8, none⟩ (.int .u8 ((s.getD (k / 8) 0 ^^^ 2 ^ (k % 8) : Nat) : Int))) g t (nums .u8 (bend s k) ++ rest) := by
  have := R.set (k / 8) (.int .u8 ((s.getD (k / 8) 0 ^^^ 2 ^ (k % 8) : Nat) : Int))
  rw [List.set_append_left _ _ (by simpa [nums] using hk)] at this
  rw [show (nums .u8 s).set (k / 8) (.int .u8 ((s.getD (k / 8) 0 ^^^ 2 ^ (k % 8) : Nat) : Int)) = nums .u8 (bend s k) by simp [nums, bend, List.map_set]] at this
  exact this

set_option maxRecDepth 100000 in
set_option maxHeartbeats 4000000 in
theorem walk_WordsBent (v0 v1 : Value) (w : World) (w0 : IsWord w v0) (w1 : IsInt .u16 v1) :
    Calls Try.prog 6 #[v0, v1] w fun e w' => e = .returned (.bool true) ∧ Old w w' := by
  obtain ⟨c, m, rfl, F, CP⟩ := w0
  obtain ⟨z, rfl, hz⟩ := w1
  have hzb := bounds_u16 hz
  obtain ⟨bit, rfl⟩ : ∃ bit : Nat, z = (bit : Int) := ⟨z.toNat, by omega⟩
  have hb : bit < 65536 := by omega
  have R := hide (Row.new w 29 (wdc c m))
  have O0 := hide (Old.of_alloc w (.cells (wdc c m).toArray 29))
  have AW := hide awake15
  have C2 := hide (fun (wr : World) (o : Old w wr) => encode_any letterK c m wr (F.mono o) CP)
  unfold EncR at C2
  have BS := hide F.text
  have BT := hide (text_lt (c := c) (fun x hx => (F.parcelB x hx).2.2.1))
  clear F CP hz hzb
  cases hg : goodB c
  · simp only [hg] at C2
    unfold wdc at *
    clear hg
    go_enter Try.func6, Try.ntmps6
    go_wp2_with fail
    refine (C2.out _ O0.out).mono ?_
    rintro e w2 ⟨rfl, o2⟩
    have O2 := hide (O0.out.trans o2)
    clear o2 C2
    go_wp2_with fail
    refine (AW.out _).mono ?_
    rintro e w3 ⟨rfl, o3⟩
    have O3 := hide (O2.out.trans o3)
    clear o3
    go_wp2_with fail
    refine (AW.out _).mono ?_
    rintro e w4 ⟨rfl, o4⟩
    have O4 := hide (O3.out.trans o4)
    clear o4
    go_wp2
    go_ret
    exact ⟨by simp, O4.out⟩
  · simp only [hg, if_true] at C2
    have FF := good_fine hg
    have TL := text_len FF
    have LS := sealed_len hg
    have L4 : 4 ≤ (sealed (textT c)).length := by unfold sealed; rw [List.length_append, le4_len]; omega
    obtain ⟨S, hS⟩ : ∃ S, S = sealed (textT c) := ⟨_, rfl⟩
    obtain ⟨N, hN⟩ : ∃ N, N = S.length := ⟨_, rfl⟩
    obtain ⟨k, hk⟩ : ∃ k, k = bit % (8 * N) := ⟨_, rfl⟩
    have n1 : 4 ≤ N ∧ N ≤ 20004 := by rw [hN, hS]; exact ⟨L4, LS⟩
    have kl : k < 8 * N := by rw [hk]; exact Nat.mod_lt _ (by omega)
    have HE0 : opE (bend S k) = 2 := by
      rw [hS]
      exact opE_bent BT.out (by omega) (by rw [← hS, ← hN]; exact kl)
    rw [← hS] at BS C2
    have K2 := hide hN.symm
    rw [← hN] at C2
    have HX := BS
    have HB : Hid (∀ y ∈ bend S k, y < 256) := by
      intro y hy
      unfold bend at hy
      rcases List.mem_or_eq_of_mem_set hy with h1 | h1
      · exact HX.out y h1
      · rw [h1]
        have hil : k / 8 < S.length := by rw [← hN]; omega
        exact xor15_lt _ (HX.out _ (by simp [List.getD, hil])) _ (by omega)
    have HD : Hid (decB (bend S k) = false) := decB_no HB.out (by rw [HE0]; decide)
    have tk : Int.tmod (bit : Int) (8 * (N : Int)) = (k : Int) := by
      rw [hk, Int.tmod_eq_emod_of_nonneg (Int.natCast_nonneg _), show 8 * (N : Int) = ((8 * N : Nat) : Int) by simp]
      exact (Int.natCast_emod _ _).symm
    have e8 : wrap64 (8 * (N : Int)) = 8 * (N : Int) := by unfold wrap64; omega
    have eb : IntKind.i64.wrap (bit : Int) = (bit : Int) := by rw [IntKind.wrap_i64]; omega
    have HM : Hid (k < 8 * N ∧ N ≤ 20004) := ⟨kl, n1.2⟩
    have KI : (k : Int) ≤ 160031 := by omega
    have K0 : (0 : Int) ≤ k := by omega
    have N0 : (N : Int) ≤ 20004 := by omega
    have N1 : ((N : Int) == 0) = false := by simp; omega
    have N1' : (N == 0) = false := by simp; omega
    have N8 : (8 * (N : Int) == 0) = false := by simp; omega
    clear hg FF TL LS L4 hN hk n1 kl HE0 hb BT hS
    unfold wdc at *
    go_enter Try.func6, Try.ntmps6
    go_wp2_with fail
    refine (C2.out _ O0.out).mono ?_
    rintro e w2 ⟨g, cg, rest, rfl, lg, hcg, R2, o2⟩
    have O2 := hide (O0.out.trans o2)
    have LG : Hid (w.heap.size ≤ g) := Nat.le_trans O0.out.size lg
    have R3 := hide R2
    have HCG := hide hcg
    clear C2 o2 lg R2 hcg
    go_wp2_with fail
    refine (AW.out _).mono ?_
    rintro e w4 ⟨rfl, o4⟩
    have O4 := hide (O2.out.trans o4)
    have R4 := hide (R3.out.mono o4)
    clear o4 R3
    have q8 : k / 8 < N := by have := HM.out.1; omega
    obtain ⟨x, hxx⟩ : ∃ x, x = S.getD (k / 8) 0 := ⟨_, rfl⟩
    have hil : k / 8 < S.length := by rw [K2.out]; exact q8
    have xl : x < 256 := by rw [hxx]; exact HX.out _ (by simp [List.getD, hil])
    have cx : w4.cell? ⟨g, k / 8, none⟩ = some (.int .u8 (x : Nat)) := R4.out.cell (by rw [List.getElem?_append_left (by simpa [nums] using hil), hxx]; simp [nums, List.getD, hil])
    have fx := R4.out.free (k / 8)
    have R5 := hide (bend15 R4.out hil)
    rw [← hxx] at R5
    have X1 := xor15 x xl (k % 8) (by omega)
    have X2 : IntKind.u8.wrap ((2 ^ (k % 8) : Nat) : Int) = ((2 ^ (k % 8) : Nat) : Int) := wu8 (Nat.pow_lt_pow_right (by omega) (by omega : k % 8 < 8))
    obtain ⟨p, hp⟩ : ∃ p, p = k / 8 := ⟨_, rfl⟩
    obtain ⟨j, hj⟩ : ∃ j, j = k % 8 := ⟨_, rfl⟩
    obtain ⟨y, hy⟩ : ∃ y, y = x ^^^ 2 ^ (k % 8) := ⟨_, rfl⟩
    have td : Int.tdiv (k : Int) 8 = (p : Int) := by rw [hp, Int.tdiv_eq_ediv_of_nonneg (Int.natCast_nonneg _)]; omega
    have tm : Int.tmod (k : Int) 8 = (j : Int) := by rw [hj, Int.tmod_eq_emod_of_nonneg (Int.natCast_nonneg _)]; omega
    have ej : IntKind.u64.wrap (j : Int) = (j : Int) := by rw [IntKind.wrap_u64]; omega
    have jl : (j : Int) ≤ 7 := by omega
    have j0 : (0 : Int) ≤ j := by omega
    rw [← hp] at cx fx R5 q8
    rw [← hj] at hy X1 X2 R5
    rw [← hy] at X1 R5
    have p0 : (0 : Int) ≤ p := by omega
    have p1 : (p : Int) < N := by omega
    have X3 : bits BinOp.xor IntKind.u8 (x : Int) ((2 : Int) ^ j % 256) = (y : Int) := by rw [pow15 j (by omega)]; exact X1
    have O5 := hide (O4.out.grown (grown_set w4 g p (.int .u8 (y : Int))) LG.out)
    have Y5 := hide (By14.row R5.out (by rw [bend_length]; exact K2.out) HCG.out (by have := HM.out.2; omega) HB.out)
    clear hp hj hy hxx xl hil R5 R4 O4
    have C6 := hide (decode_any (some ⟨g, 0, none⟩) N cg (bend S k) _ Y5.out)
    unfold DecR at C6
    simp only [HD.out] at C6
    have C7 := fun wr : World => refSame15_any zeroW zeroW zeroM zeroM wr (zeroIn wr) (zeroIn wr) (by decide)
    simp only [wdc, zeroW, zeroM, List.length_nil] at C6 C7
    go_wp2_with fail
    refine C6.out.mono ?_
    rintro e w6 ⟨rfl, o6⟩
    have O6 := hide (O5.out.trans o6)
    clear C6 Y5 O5 X1 X2 X3 cx fx o6
    have RZ := (Row.new w6 29 [.int .i64 0, .int .i64 0, .int .i64 0, .slice none 0 0, .slice none 0 0, .slice none 0 0, .slice none 0 0, .slice none 0 0])
    have O7 := hide (O6.out.trans (Old.of_alloc w6 (.cells #[.int .i64 0, .int .i64 0, .int .i64 0, .slice none 0 0, .slice none 0 0, .slice none 0 0, .slice none 0 0, .slice none 0 0] 29)))
    have d0 := RZ.cell (i := 0) rfl
    have d1 := RZ.cell (i := 1) rfl
    have d2 := RZ.cell (i := 2) rfl
    have d3 := RZ.cell (i := 3) rfl
    have d4 := RZ.cell (i := 4) rfl
    have d5 := RZ.cell (i := 5) rfl
    have d6 := RZ.cell (i := 6) rfl
    have d7 := RZ.cell (i := 7) rfl
    clear RZ
    go_wp2_with fail
    refine (C7 _).mono ?_
    rintro e w8 ⟨rfl, o8⟩
    have O8 := hide (O7.out.trans o8)
    clear o8 C7 d0 d1 d2 d3 d4 d5 d6 d7
    go_wp2
    go_ret
    exact ⟨by simp, O8.out⟩
end Go.Proofs.Ytepchjpdfmleoaa
