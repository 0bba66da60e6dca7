/-
  The document's own fields as texts (offertoryref14): Small, Great, Sealed, number: what they answer; sums of texts.
-/
import Derived.Test.YtccphdngmhfmnaaRefCheck
import Derived.Test.YtccphdngmhfmnaaCalm
namespace Go.Proofs.Ytccphdngmhfmnaa
open Go.RowKit Cn
set_option linter.unusedVariables false

namespace Cn
theorem w64 {x : Nat} (h : x ≤ 9223372036854775807) : wrap64 (x : Int) = x := by unfold wrap64; omega
theorem wu8 {x : Nat} (h : x < 256) : IntKind.u8.wrap (x : Int) = x := by show (x : Int) % 256 = x; omega
theorem wi64 {x : Nat} (h : x ≤ 9223372036854775807) : IntKind.i64.wrap (x : Int) = x := by rw [IntKind.wrap_i64]; omega
/-- A number of four bytes, the lowest first. -/
def le4 (n : Nat) : List Nat := [n % 256, n / 256 % 256, n / 65536 % 256, n / 16777216 % 256]
def le8 (n : Nat) : List Nat := le4 (n % 4294967296) ++ le4 (n / 4294967296)
theorem le4_lt (n : Nat) : ∀ x ∈ le4 n, x < 256 := by
  intro x hx
  simp [le4] at hx
  rcases hx with rfl | rfl | rfl | rfl <;> omega
theorem le8_lt (n : Nat) : ∀ x ∈ le8 n, x < 256 := by
  intro x hx
  rcases List.mem_append.1 hx with h | h <;> exact le4_lt _ _ h
/-- Bytes with how many they are. -/
def fieldB (l : List Nat) : List Nat := le4 l.length ++ l
/-- Fields with their check. -/
def sealed (l : List Nat) : List Nat := l ++ le4 (crc l)
theorem crc_lt (l : List Nat) : crc l < 4294967296 := by unfold crc; omega
/-- Bytes as a number, the lowest first. -/
def numL : List Nat → Nat
  | [] => 0
  | x :: r => x + 256 * numL r
theorem numL_lt : ∀ {l : List Nat}, (∀ x ∈ l, x < 256) → numL l < 256 ^ l.length
  | [], _ => by simp [numL]
  | x :: r, h => by
    have h1 := numL_lt (l := r) fun y hy => h y (List.mem_cons_of_mem _ hy)
    have h2 := h x (List.mem_cons_self ..)
    rw [numL, List.length_cons, Nat.pow_succ]
    omega
theorem numL_drop (l : List Nat) {i : Nat} (h : i < l.length) : numL (l.drop i) = l.getD i 0 + 256 * numL (l.drop (i + 1)) := by
  rw [List.drop_eq_getElem_cons h, numL]
  simp [List.getD, h]
end Cn

set_option maxHeartbeats 2000000 in
theorem refSmall14_any (n : Nat) (hn : n ≤ 9223372036854775807) (w : World) :
    Calls Try.prog 11 #[.int .i64 (n : Int)] w fun e w' => e = .returned (.string (Ssb.bstr (le4 n))) ∧ Old w w' := by
  obtain ⟨a0, h0⟩ : ∃ a0, a0 = n % 256 := ⟨_, rfl⟩
  obtain ⟨n1, g1⟩ : ∃ n1, n1 = n / 256 := ⟨_, rfl⟩
  obtain ⟨n2, g2⟩ : ∃ n2, n2 = n / 65536 := ⟨_, rfl⟩
  obtain ⟨n3, g3⟩ : ∃ n3, n3 = n / 16777216 := ⟨_, rfl⟩
  obtain ⟨a1, h1⟩ : ∃ a1, a1 = n1 % 256 := ⟨_, rfl⟩
  obtain ⟨a2, h2⟩ : ∃ a2, a2 = n2 % 256 := ⟨_, rfl⟩
  obtain ⟨a3, h3⟩ : ∃ a3, a3 = n3 % 256 := ⟨_, rfl⟩
  have v1 : wrap64 (n1 : Int) = n1 := w64 (by rw [g1]; exact Nat.le_trans (Nat.div_le_self _ _) hn)
  have v2 : wrap64 (n2 : Int) = n2 := w64 (by rw [g2]; exact Nat.le_trans (Nat.div_le_self _ _) hn)
  have v3 : wrap64 (n3 : Int) = n3 := w64 (by rw [g3]; exact Nat.le_trans (Nat.div_le_self _ _) hn)
  have nb : (n : Int) ≤ 9223372036854775807 := Int.ofNat_le.2 hn
  have n0 : (0 : Int) ≤ n := Int.natCast_nonneg n
  have w0 : IntKind.u8.wrap (a0 : Int) = a0 := wu8 (by rw [h0]; exact Nat.mod_lt _ (by omega))
  have w1 : IntKind.u8.wrap (a1 : Int) = a1 := wu8 (by rw [h1]; exact Nat.mod_lt _ (by omega))
  have w2 : IntKind.u8.wrap (a2 : Int) = a2 := wu8 (by rw [h2]; exact Nat.mod_lt _ (by omega))
  have w3 : IntKind.u8.wrap (a3 : Int) = a3 := wu8 (by rw [h3]; exact Nat.mod_lt _ (by omega))
  have E : Hid (le4 n = [a0, a1, a2, a3]) := by rw [h0, h1, h2, h3, g1, g2, g3]; rfl
  have td : ∀ (x d : Nat), Int.tdiv (x : Int) (d : Int) = ((x / d : Nat) : Int) := fun x d => by rw [Int.tdiv_eq_ediv_of_nonneg (Int.natCast_nonneg x)]; simp
  have tm : ∀ (x d : Nat), Int.tmod (x : Int) (d : Int) = ((x % d : Nat) : Int) := fun x d => by rw [Int.tmod_eq_emod_of_nonneg (Int.natCast_nonneg x)]; simp
  have d1 : Int.tdiv (n : Int) 256 = (n1 : Int) := by rw [g1]; exact td n 256
  have d2 : Int.tdiv (n : Int) 65536 = (n2 : Int) := by rw [g2]; exact td n 65536
  have d3 : Int.tdiv (n : Int) 16777216 = (n3 : Int) := by rw [g3]; exact td n 16777216
  have m0 : Int.tmod (n : Int) 256 = (a0 : Int) := by rw [h0]; exact tm n 256
  have m1 : Int.tmod (n1 : Int) 256 = (a1 : Int) := by rw [h1]; exact tm n1 256
  have m2 : Int.tmod (n2 : Int) 256 = (a2 : Int) := by rw [h2]; exact tm n2 256
  have m3 : Int.tmod (n3 : Int) 256 = (a3 : Int) := by rw [h3]; exact tm n3 256
  have CV : (convert 26 9 (.slice (some ⟨w.heap.size, 0, none⟩) 4 4)).run Try.prog (w.alloc (.cells #[.int .u8 (a0 : Nat), .int .u8 (a1 : Nat), .int .u8 (a2 : Nat), .int .u8 (a3 : Nat)] 5)) = .ok (.string (Ssb.bstr [a0, a1, a2, a3])) (w.alloc (.cells #[.int .u8 (a0 : Nat), .int .u8 (a1 : Nat), .int .u8 (a2 : Nat), .int .u8 (a3 : Nat)] 5)) :=
    Ssb.run_bstr Try.underlying26 Try.underlying5 Try.underlying9 rfl (Row.new w 5 (nums .u8 [a0, a1, a2, a3])).rd
  clear h0 h1 h2 h3 g1 g2 g3 td tm hn
  go_enter Try.func11, Try.ntmps11
  go_wp2
  go_ret
  exact ⟨by rw [E.out]; rfl, Old.of_alloc _ _⟩

theorem add_texts (a b : List Nat) (h : a.length + b.length ≤ 9223372036854775807) (w : World) : (Op.stringOp .add (Ssb.bstr a) (Ssb.bstr b)).run Try.prog w = .ok (.string (Ssb.bstr (a ++ b))) w := by
  rw [run_string_add_sum w _ _ (by rw [bs_size, bs_size]; omega), bs_append]

set_option maxHeartbeats 2000000 in
theorem refGreat14_any (n : Nat) (hn : n < 18446744073709551616) (w : World) :
    Calls Try.prog 13 #[.int .u64 (n : Int)] w fun e w' => e = .returned (.string (Ssb.bstr (le8 n))) ∧ Old w w' := by
  obtain ⟨a, ha⟩ : ∃ a, a = n % 4294967296 := ⟨_, rfl⟩
  obtain ⟨b, hb⟩ : ∃ b, b = n / 4294967296 := ⟨_, rfl⟩
  have E : Hid (le8 n = le4 a ++ le4 b) := by unfold le8; rw [Hid, ha, hb]
  have al : a ≤ 9223372036854775807 := by rw [ha]; have := Nat.mod_lt n (show 4294967296 > 0 by omega); omega
  have bl : b ≤ 9223372036854775807 := by rw [hb]; have := Nat.div_lt_of_lt_mul (k := 4294967296) (n := 4294967296) hn; omega
  have w0 : IntKind.i64.wrap (a : Int) = a := wi64 al
  have w1 : IntKind.i64.wrap (b : Int) = b := wi64 bl
  have y1 : IntKind.u64.wrap (b : Int) = b := by show (b : Int) % 18446744073709551616 = b; omega
  have y2 : wrap64 (b : Int) = b := w64 bl
  have y3 : wrap64 (a : Int) = a := w64 al
  have C1 := hide (refSmall14_any a al)
  have C2 := hide (refSmall14_any b bl)
  have n0 : (0 : Int) ≤ n := Int.natCast_nonneg n
  have m0 : Int.tmod (n : Int) 4294967296 = (a : Int) := by rw [Int.tmod_eq_emod_of_nonneg n0, ha]; simp
  have m1 : (n : Int) % 4294967296 = (a : Int) := by rw [ha]; simp
  have d1 : (n : Int) / 4294967296 = (b : Int) := by rw [hb]; simp
  have d0 : Int.tdiv (n : Int) 4294967296 = (b : Int) := by rw [Int.tdiv_eq_ediv_of_nonneg n0, hb]; simp
  have z1 : (Ssb.bstr (le4 a)).size = 4 := by rw [bs_size]; rfl
  have z2 : (Ssb.bstr (le4 b)).size = 4 := by rw [bs_size]; rfl
  clear ha hb hn al bl
  generalize le4 a = la at C1 z1 E
  generalize le4 b = lb at C2 z2 E
  go_enter Try.func13, Try.ntmps13
  go_wp2_with fail
  refine (C1.out _).mono ?_
  rintro e w1 ⟨rfl, o1⟩
  go_wp2_with fail
  refine (C2.out _).mono ?_
  rintro e w2 ⟨rfl, o2⟩
  go_wp2
  go_ret
  exact ⟨by rw [E.out, ← bs_append]; rfl, o1.trans o2⟩

set_option maxHeartbeats 2000000 in
theorem refSealed14_any (xs : List Nat) (hx : ∀ x ∈ xs, x < 256) (hl : xs.length ≤ 1000000) (w : World) :
    Calls Try.prog 17 #[.string (Ssb.bstr xs)] w fun e w' => e = .returned (.string (Ssb.bstr (sealed xs))) ∧ Old w w' := by
  have C1 := hide (refCheck14_any xs hx (by omega))
  have cl := crc_lt xs
  obtain ⟨c, hc⟩ : ∃ c, c = crc xs := ⟨_, rfl⟩
  rw [← hc] at C1 cl
  have y1 : wrap64 (c : Int) = c := w64 (by omega)
  have y2 : IntKind.i64.wrap (c : Int) = c := wi64 (by omega)
  have C2 := hide (refSmall14_any c (by omega))
  have z1 : (Ssb.bstr xs).size ≤ 1000000 := by rw [bs_size]; exact hl
  have z2 : (Ssb.bstr (le4 c)).size = 4 := by rw [bs_size]; rfl
  have E : Hid (Ssb.bstr (sealed xs) = Ssb.bstr xs ++ Ssb.bstr (le4 c)) := by unfold sealed; rw [Hid, bs_append, hc]
  generalize le4 c = la at C2 z2 E
  clear cl hc hx hl
  go_enter Try.func17, Try.ntmps17
  go_wp2_with fail
  refine (C1.out _).mono ?_
  rintro e w1 ⟨rfl, rfl⟩
  go_wp2_with fail
  refine (C2.out _).mono ?_
  rintro e w2 ⟨rfl, o2⟩
  go_wp2
  go_ret
  exact ⟨by rw [E.out]; rfl, o2⟩

set_option maxHeartbeats 2000000 in
theorem refnumber14_any (xs : List Nat) (hx : ∀ x ∈ xs, x < 256) (hl : xs.length ≤ 8) (w : World) :
    Calls Try.prog 35 #[.string (Ssb.bstr xs)] w fun e w' => e = .returned (.int .u64 (numL xs : Nat)) ∧ w' = w := by
  have SZ := bs_size xs
  have HX := hide hx
  have HL := hide hl
  have l8 : (xs.length : Int) ≤ 8 := by omega
  clear hx hl
  go_enter Try.func35, Try.ntmps35
  go_wp2_with fail
  go_loop [3, 4] (fun vn vi => ∃ (j : Nat) (z : Int), j ≤ xs.length ∧ z = (j : Int) - 1 ∧ vi = .int .i64 z ∧ vn = .int .u64 (numL (xs.drop j) : Nat)) (fun _ vi => (intOf vi + 1).toNat)
  case atStart => exact ⟨xs.length, (xs.length : Int) - 1, Nat.le_refl _, rfl, by simp, by rw [List.drop_length]; rfl⟩
  case round =>
    obtain ⟨j, z, hj, hz, rfl, rfl⟩ := hrel
    by_cases hj0 : j = 0
    · subst hj0
      obtain rfl : z = -1 := by omega
      clear hz hj
      rw [List.drop_zero]
      have t6 : decide ((0 : Int) ≤ -1) = false := by decide
      go_wp2
      go_ret
      exact ⟨rfl, rfl⟩
    · obtain ⟨t, rfl⟩ : ∃ t, j = t + 1 := ⟨j - 1, by omega⟩
      obtain rfl : z = (t : Int) := by omega
      have t6 : decide ((0 : Int) ≤ (t : Int)) = true := by simp
      have tl : t < xs.length := by omega
      obtain ⟨x, hxx⟩ : ∃ x, x = xs.getD t 0 := ⟨_, rfl⟩
      have gx : ∀ h : t < (Ssb.bstr xs).size, ((Ssb.bstr xs)[t]'h).toNat = x := fun h => by rw [hxx]; exact bs_get xs HX.out h
      have xl : x < 256 := by rw [hxx]; exact HX.out _ (by simp [List.getD, tl])
      have NX := numL_drop xs tl
      rw [← hxx] at NX
      have ml : numL (xs.drop (t + 1)) < 256 ^ (xs.length - (t + 1)) := by
        have := numL_lt (l := xs.drop (t + 1)) fun y hy => HX.out y (List.mem_of_mem_drop hy)
        rwa [List.length_drop] at this
      have ml2 : numL (xs.drop (t + 1)) < 256 ^ 7 := Nat.lt_of_lt_of_le ml (Nat.pow_le_pow_right (by omega) (by have := HL.out; omega))
      obtain ⟨m, hm⟩ : ∃ m, m = numL (xs.drop (t + 1)) := ⟨_, rfl⟩
      rw [← hm] at NX ml2 ⊢
      have e1 : IntKind.u64.wrap ((m : Int) * 256) = ((m * 256 : Nat) : Int) := by show ((m : Int) * 256) % 18446744073709551616 = _; omega
      have e2 : IntKind.u64.wrap (x : Int) = x := by show (x : Int) % 18446744073709551616 = x; omega
      obtain ⟨y, hy⟩ : ∃ y, y = m * 256 := ⟨_, rfl⟩
      rw [← hy] at e1
      have e3 : IntKind.u64.wrap ((y : Int) + (x : Int)) = ((y + x : Nat) : Int) := by show ((y : Int) + x) % 18446744073709551616 = _; omega
      have q0 : (0 : Int) ≤ t := by omega
      have q1 : (t : Int) < xs.length := by omega
      obtain ⟨r, hr⟩ : ∃ r, r = y + x := ⟨_, rfl⟩
      rw [← hr] at e3
      have FN : Hid (numL (xs.drop t) = r) := by rw [Hid, NX, hr, hy]; omega
      have HXX := hide hxx
      clear hxx xl ml ml2 hy hr hz hj0 NX hm
      go_wp2
      exact ⟨⟨t, (t : Int) - 1, by omega, rfl, rfl, by rw [FN.out]⟩, by simp [intOf]⟩
end Go.Proofs.Ytccphdngmhfmnaa
