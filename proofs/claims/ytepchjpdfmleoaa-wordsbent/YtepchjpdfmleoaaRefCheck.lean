/-
  The document's own Check of a text (offertoryref14): what it answers.
-/
import Derived.Test.YtepchjpdfmleoaaProg
import Derived.Test.YtepchjpdfmleoaaTxtN
namespace Go.Proofs.Ytepchjpdfmleoaa
open Go.RowKit Cn
set_option linter.unusedVariables false

namespace Cn
/-- The state behind i bytes and k bits of the next. -/
def chk (l : List Nat) (i k : Nat) : Nat := dstps (bitsOf (l.take i) ++ (bits8 (l.getD i 0)).take k) 4294967295
theorem dstps_append : ∀ (l m : List Nat) (n : Nat), dstps (l ++ m) n = dstps m (dstps l n)
  | [], _, _ => rfl
  | b :: l, m, n => dstps_append l m (dstp n b)
theorem dstps_lt : ∀ (l : List Nat) {n : Nat}, n < 4294967296 → dstps l n < 4294967296
  | [], _, h => h
  | b :: l, n, h => dstps_lt l (dstp_lt h)
theorem chk_lt (l : List Nat) (i k : Nat) : chk l i k < 4294967296 := dstps_lt _ (by omega)
theorem chk_zero (l : List Nat) : chk l 0 0 = 4294967295 := by simp [chk, bitsOf, dstps]
theorem chk_bit (l : List Nat) (i : Nat) {k : Nat} (hk : k < 8) : chk l i (k + 1) = dstp (chk l i k) (l.getD i 0 / 2 ^ k % 2) := by
  unfold chk
  rw [List.take_add_one, show (bits8 (l.getD i 0))[k]? = some (l.getD i 0 / 2 ^ k % 2) by simp [bits8, hk], Option.toList_some, ← List.append_assoc, dstps_append _ [_]]
  rfl
theorem chk_byte (l : List Nat) {i : Nat} (hi : i < l.length) : chk l i 8 = chk l (i + 1) 0 := by
  unfold chk
  have e8 : (bits8 (l.getD i 0)).take 8 = bits8 (l.getD i 0) := List.take_of_length_le (by simp [bits8])
  rw [e8, List.take_zero, List.append_nil, show l.take (i + 1) = l.take i ++ [l.getD i 0] by rw [List.take_add_one, List.getElem?_eq_getElem hi, Option.toList_some]; simp [List.getD, hi]]
  simp [bitsOf, List.flatMap_append]
theorem chk_all (l : List Nat) : 4294967295 - rev (chk l l.length 0) = crc l := by
  unfold chk crc
  rw [List.take_zero, List.append_nil, List.take_of_length_le (Nat.le_refl _), rev_stps _ (by omega), show rev 4294967295 = 4294967295 by decide +kernel]
theorem bit_u8 : ∀ x : Nat, x < 256 → ∀ k : Nat, k < 8 → bits .and .u8 ((x : Int) / 2 ^ k) 1 = ((x / 2 ^ k % 2 : Nat) : Int) := by decide +kernel
theorem bs_get (l : List Nat) (hl : ∀ x ∈ l, x < 256) {i : Nat} (h : i < (Ssb.bstr l).size) : ((Ssb.bstr l)[i]'h).toNat = l.getD i 0 := by
  have h' : i < l.length := by rw [← bs_size l]; exact h
  have e : (Ssb.bstr l).data.toList[i]? = some (UInt8.ofNat l[i]) := by rw [bs_toList]; simp [h']
  have e2 : (Ssb.bstr l).data.toList[i]? = some ((Ssb.bstr l)[i]'h) := by
    rw [Array.getElem?_toList]
    exact Array.getElem?_eq_getElem h
  rw [e2] at e
  have e3 := Option.some.inj e
  rw [e3, UInt8.toNat_ofNat_of_lt' (by simpa using hl _ (List.getElem_mem h'))]
  simp [List.getD, h']
theorem or_u32 (a b : Nat) (ha : a < 4294967296) (hb : b < 4294967296) : bits .or .u32 (a : Int) (b : Int) = ((a ||| b : Nat) : Int) := by
  have hx : a ||| b < 2 ^ 32 := Nat.or_lt_two_pow (by omega) (by omega)
  have h1 : (BitVec.ofInt 32 (a : Int)).toNat = a := by
    rw [BitVec.ofInt_natCast, BitVec.toNat_ofNat]; exact Nat.mod_eq_of_lt (by omega)
  have h2 : (BitVec.ofInt 32 (b : Int)).toNat = b := by
    rw [BitVec.ofInt_natCast, BitVec.toNat_ofNat]; exact Nat.mod_eq_of_lt (by omega)
  show IntKind.u32.wrap ((BitVec.ofInt 32 (a : Int) ||| BitVec.ofInt 32 (b : Int)).toNat : Int) = _
  rw [BitVec.toNat_or, h1, h2]
  show ((a ||| b : Nat) : Int) % 4294967296 = _
  omega
theorem not_u32 (r : Nat) (hr : r < 4294967296) : bits .xor .u32 IntKind.u32.max (r : Int) = 4294967295 - (r : Int) := by
  have h2 : (BitVec.ofInt 32 (r : Int)).toNat = r := by
    rw [BitVec.ofInt_natCast, BitVec.toNat_ofNat]; exact Nat.mod_eq_of_lt (by omega)
  show IntKind.u32.wrap ((BitVec.ofInt 32 4294967295 ^^^ BitVec.ofInt 32 (r : Int)).toNat : Int) = _
  rw [show BitVec.ofInt 32 4294967295 = BitVec.allOnes 32 by decide, BitVec.allOnes_xor, BitVec.toNat_not, h2]
  show ((2 ^ 32 - 1 - r : Nat) : Int) % 4294967296 = _
  omega
theorem or_bit (o : Nat) {b : Nat} (hb : b < 2) : (o * 2) ||| b = o * 2 + b := by
  have := Nat.shiftLeft_add_eq_or_of_lt (a := o) (b := b) (i := 1) (by omega)
  rw [Nat.shiftLeft_eq] at this
  simpa using this.symm
def revTo (n i : Nat) : Nat := (List.range i).foldl (fun a j => a * 2 + n / 2 ^ j % 2) 0
theorem revTo_next (n i : Nat) : revTo n (i + 1) = revTo n i * 2 + n / 2 ^ i % 2 := by
  unfold revTo
  rw [List.range_succ, List.foldl_append]
  rfl
theorem revTo_lt (n : Nat) : ∀ i, revTo n i < 2 ^ i
  | 0 => by simp [revTo]
  | i + 1 => by
    have := revTo_lt n i
    have := Nat.mod_lt (n / 2 ^ i) (by omega : 2 > 0)
    rw [revTo_next, Nat.pow_succ]
    omega
end Cn

set_option maxHeartbeats 4000000 in
theorem refCheck14_any (xs : List Nat) (hx : ∀ x ∈ xs, x < 256) (hl : xs.length ≤ 9223372036854775807) (w : World) :
    Calls Try.prog 30 #[.string (Ssb.bstr xs)] w fun e w' => e = .returned (.int .u32 (crc xs : Nat)) ∧ w' = w := by
  have SZ := bs_size xs
  have HX := hide hx
  have HL := hide hl
  clear hx hl
  go_enter Try.func30, Try.ntmps30
  go_wp2_with fail
  go_loop [3, 4, 5] (fun vn vi _ => ∃ i : Nat, i ≤ xs.length ∧ vi = .int .i64 (i : Int) ∧ vn = .int .u64 (chk xs i 0 : Nat)) (fun _ vi _ => xs.length - (intOf vi).toNat)
  case atStart => exact ⟨0, Nat.zero_le _, rfl, by rw [chk_zero]; rfl⟩
  case round =>
    obtain ⟨i, hi, rfl, rfl⟩ := hrel
    by_cases hl : i < xs.length
    · have t1 : decide (i < xs.length) = true := by simpa using hl
      have t1' : decide ((i : Int) < (xs.length : Int)) = true := by simp; omega
      obtain ⟨x, hxx⟩ : ∃ x, x = xs.getD i 0 := ⟨_, rfl⟩
      have xl : x < 256 := by rw [hxx]; exact HX.out _ (by simp [List.getD, hl])
      have HXX := hide hxx
      clear hxx
      go_wp2_with fail
      go_loop [3, 5] (fun vn vk => ∃ k : Nat, k ≤ 8 ∧ vk = .int .i64 (k : Int) ∧ vn = .int .u64 (chk xs i k : Nat)) (fun _ vk => 8 - (intOf vk).toNat)
      case atStart => exact ⟨0, Nat.zero_le _, rfl, rfl⟩
      case round =>
        obtain ⟨k, hk, rfl, rfl⟩ := hrel
        by_cases hk8 : k = 8
        · subst hk8
          have t2 : decide (((8 : Nat) : Int) < 8) = false := by decide
          rw [chk_byte xs hl]
          have iw : wrap64 ((i : Int) + 1) = ((i + 1 : Nat) : Int) := by have := HL.out; unfold wrap64; omega
          go_wp2
          rw [iw]
          exact ⟨⟨i + 1, by omega, rfl, rfl⟩, by simp [intOf]; omega⟩
        · have hk' : k < 8 := by omega
          have t2 : decide ((k : Int) < 8) = true := by simp; omega
          have q0 : (0 : Int) ≤ i := by omega
          have q1 : (i : Int) < xs.length := by omega
          have k0 : (0 : Int) ≤ k := by omega
          have k1 : (k : Int) ≤ 8 := by omega
          have ek : IntKind.u64.wrap (k : Int) = k := by show (k : Int) % 18446744073709551616 = k; omega
          have gx : ∀ h : i < (Ssb.bstr xs).size, ((Ssb.bstr xs)[i]'h).toNat = x := fun h => by rw [HXX.out]; exact bs_get xs HX.out h
          obtain ⟨b, hb⟩ : ∃ b, b = x / 2 ^ k % 2 := ⟨_, rfl⟩
          have b2 : b < 2 := by omega
          obtain ⟨n, hn⟩ : ∃ n, n = chk xs i k := ⟨_, rfl⟩
          have nl : n < 4294967296 := by rw [hn]; exact chk_lt xs i k
          have NX := chk_bit xs i hk'
          rw [← HXX.out, ← hb, ← hn] at NX
          rw [← hn]
          have e1 : IntKind.u64.wrap ((n : Int) * 2) = ((n * 2 : Nat) : Int) := by rw [IntKind.wrap_u64]; omega
          have e2 : bits .and .u8 ((x : Int) / 2 ^ k) 1 = (b : Int) := by rw [hb]; exact bit_u8 x xl k hk'
          have e2' : IntKind.u64.wrap (b : Int) = b := by rw [IntKind.wrap_u64]; omega
          have e3 : IntKind.u64.wrap ((b : Int) * 4294967296) = ((b * 4294967296 : Nat) : Int) := by rw [IntKind.wrap_u64]; omega
          have e4 := bits_xor_u64_nat (n * 2) (b * 4294967296) (by omega) (by omega)
          rw [up_eq nl b2] at e4
          obtain ⟨m, hm⟩ : ∃ m, m = n % 2147483648 * 2 := ⟨_, rfl⟩
          have ml : m < 4294967296 := by omega
          unfold dstp at NX
          rw [← hm] at e4 NX
          obtain ⟨n2, hn2⟩ : ∃ n2, n2 = n * 2 := ⟨_, rfl⟩
          obtain ⟨b32, hb32⟩ : ∃ b32, b32 = b * 4294967296 := ⟨_, rfl⟩
          rw [← hn2] at e1 e4
          rw [← hb32] at e3 e4
          by_cases ht : (n / 2147483648 + b) % 2 = 1
          · rw [if_pos ht] at NX
            rw [ht, Nat.one_mul] at e4
            obtain ⟨X, hX⟩ : ∃ X, X = 4294967296 + m := ⟨_, rfl⟩
            rw [← hX] at e4
            have e5 : ((X : Int) / 4294967296 == 1) = true := by simp; omega
            have e6 := bits_xor_u64_nat X 4374732215 (by omega) (by omega)
            rw [hX, down_eq ml, ← hX] at e6
            have HNX := hide NX
            clear hn2 hb32 hX ml b2 nl hb hm ht NX hn xl
            go_wp2
            exact ⟨⟨k + 1, by omega, by simp, by rw [HNX.out]; exact congrArg _ e6⟩, by simp [intOf]; omega⟩
          · rw [if_neg ht] at NX
            have h0 : (n / 2147483648 + b) % 2 = 0 := by omega
            rw [h0, Nat.zero_mul, Nat.zero_add] at e4
            have e5 : ((m : Int) / 4294967296 == 1) = false := by simp; omega
            have HNX := hide NX
            clear hn2 hb32 ml b2 nl hb hm ht h0 NX hn xl
            go_wp2
            exact ⟨⟨k + 1, by omega, by simp, by rw [HNX.out]⟩, by simp [intOf]; omega⟩
    · obtain rfl : i = xs.length := by omega
      have t1 : decide (xs.length < xs.length) = false := by simp
      have t1' : decide ((xs.length : Int) < (xs.length : Int)) = false := by simp
      obtain ⟨n, hn⟩ : ∃ n, n = chk xs xs.length 0 := ⟨_, rfl⟩
      have nl : n < 4294967296 := by rw [hn]; exact chk_lt xs _ _
      have FN := chk_all xs
      rw [← hn] at FN ⊢
      have HFN := hide FN
      have HNL := hide nl
      clear FN hn nl
      go_wp2_with fail
      go_loop [6, 7] (fun vo vj => ∃ j : Nat, j ≤ 32 ∧ vj = .int .i64 (j : Int) ∧ vo = .int .u32 (revTo n j : Nat)) (fun _ vj => 32 - (intOf vj).toNat)
      case atStart => exact ⟨0, Nat.zero_le _, rfl, rfl⟩
      case round =>
        obtain ⟨j, hj, rfl, rfl⟩ := hrel
        by_cases hj3 : j = 32
        · subst hj3
          have t2 : decide (((32 : Nat) : Int) < 32) = false := by decide
          have RV : Hid (revTo n 32 = rev n) := rfl
          rw [RV.out]
          have RL := rev_lt n
          have CE : Hid (((crc xs : Nat) : Int) = 4294967295 - (rev n : Nat)) := by rw [Hid, ← HFN.out]; omega
          have NU := hide (not_u32 (rev n) RL)
          clear RL
          go_wp2
          go_ret
          exact ⟨by rw [CE.out, ← NU.out]; rfl, rfl⟩
        · have hj' : j < 32 := by omega
          have t2 : decide ((j : Int) < 32) = true := by simp; omega
          have k0 : (0 : Int) ≤ j := by omega
          have k1 : (j : Int) ≤ 32 := by omega
          have ek : IntKind.u64.wrap (j : Int) = j := by show (j : Int) % 18446744073709551616 = j; omega
          obtain ⟨o, ho⟩ : ∃ o, o = revTo n j := ⟨_, rfl⟩
          have ol : o < 2147483648 := by
            have h1 := revTo_lt n j
            have h2 : 2 ^ j ≤ 2 ^ 31 := Nat.pow_le_pow_right (by omega) (by omega)
            omega
          have NX := hide (revTo_next n j)
          rw [← ho] at NX ⊢
          obtain ⟨b, hb⟩ : ∃ b, b = n / 2 ^ j % 2 := ⟨_, rfl⟩
          have b2 : b < 2 := by omega
          rw [← hb] at NX
          have e1 : IntKind.u32.wrap ((o : Int) * 2) = ((o * 2 : Nat) : Int) := by show ((o : Int) * 2) % 4294967296 = _; omega
          have e2 : bits .and .u64 ((n : Int) / 2 ^ j) 1 = (b : Int) := by
            have h1 := bits_and_u64_nat (n / 2 ^ j) 1 (by have := Nat.div_le_self n (2 ^ j); have := HNL.out; omega) (by omega)
            rw [Nat.and_one_is_mod, ← hb] at h1
            rw [← h1]
            simp
          have e3 : IntKind.u32.wrap (b : Int) = b := by show (b : Int) % 4294967296 = b; omega
          have e4 := or_u32 (o * 2) b (by omega) (by omega)
          rw [or_bit o b2] at e4
          obtain ⟨o2, ho2⟩ : ∃ o2, o2 = o * 2 := ⟨_, rfl⟩
          rw [← ho2] at e1 e4 NX
          obtain ⟨o3, ho3⟩ : ∃ o3, o3 = o2 + b := ⟨_, rfl⟩
          rw [← ho3] at e4 NX
          clear ho2 ho3 hb ho ol b2
          go_wp2
          exact ⟨⟨j + 1, by omega, by simp, by rw [NX.out]⟩, by simp [intOf]; omega⟩
end Go.Proofs.Ytepchjpdfmleoaa
