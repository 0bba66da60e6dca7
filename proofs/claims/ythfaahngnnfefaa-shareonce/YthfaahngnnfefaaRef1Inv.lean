/-
  What the document's own inverse (offertoryref01.Inv) comes to, called with any number: the one number whose product with it is 1, where there is one.
-/
import Derived.Test.YthfaahngnnfefaaRef1
import Derived.Test.YthfaahngnnfefaaField
namespace Go.Proofs.Ythfaahngnnfefaa
open Go.RowKit M
set_option linter.unusedVariables false

namespace R1
/- a round of the division with rest -/
theorem inv_step (a old r was t : Nat) (h1 : was * a % 2305843009213693951 = old % 2305843009213693951) (h2 : t * a % 2305843009213693951 = r % 2305843009213693951) :
    subP was (mulP (old / r) t) * a % 2305843009213693951 = (old % r) % 2305843009213693951 := by
  have hs : (subP was (mulP (old / r) t) + mulP (old / r) t) % 2305843009213693951 = was % 2305843009213693951 := by unfold subP; omega
  have e1 : (subP was (mulP (old / r) t) * a + mulP (old / r) t * a) % 2305843009213693951 = was * a % 2305843009213693951 := by
    rw [← Nat.add_mul, ← Nat.mod_mul_mod, hs, Nat.mod_mul_mod]
  have e2 : mulP (old / r) t * a % 2305843009213693951 = old / r * r % 2305843009213693951 := by
    unfold mulP
    rw [Nat.mod_mul_mod, Nat.mul_assoc, ← Nat.mul_mod_mod, h2, Nat.mul_mod_mod]
  have e3 : old / r * r + old % r = old := by rw [Nat.mul_comm]; exact Nat.div_add_mod old r
  generalize subP was (mulP (old / r) t) * a = A at *
  generalize mulP (old / r) t * a = B at *
  generalize old / r * r = C at *
  generalize old % r = D at *
  omega

set_option maxHeartbeats 1000000 in
theorem Inv_any (a : Nat) (ha : a < 18446744073709551616) (h0 : a % 2305843009213693951 ≠ 0) (w : World) :
    Calls Try.prog 30 #[.int .u64 a] w fun e w' => e = .returned (.int .u64 (invP a)) ∧ w' = w := by
  obtain ⟨x, hx⟩ : ∃ x, x = a % 2305843009213693951 := ⟨_, rfl⟩
  have bx : x < 2305843009213693951 := by omega
  have ex : Hid ((a : Int) % 2305843009213693951 = (x : Int)) := by show (a : Int) % 2305843009213693951 = (x : Int); omega
  have hg := gcd_one a h0
  rw [← hx] at hg
  have H : Hid (x = a % 2305843009213693951 ∧ Nat.gcd 2305843009213693951 x = 1 ∧ a % 2305843009213693951 ≠ 0) := ⟨hx, hg, h0⟩
  clear hx hg h0
  go_enter Try.func30, Try.ntmps30
  go_wp2_with fail
  go_loop [3, 4, 5, 6] (fun vo vr vw vt => ∃ old r was t : Nat, vo = .int .u64 old ∧ vr = .int .u64 r ∧ vw = .int .u64 was ∧ vt = .int .u64 t ∧ old ≤ 2305843009213693951 ∧ r < 2305843009213693951 ∧ was < 2305843009213693951 ∧ t < 2305843009213693951 ∧
    Hid (was * a % 2305843009213693951 = old % 2305843009213693951 ∧ t * a % 2305843009213693951 = r % 2305843009213693951 ∧ Nat.gcd old r = 1)) (fun _ vr _ _ => (intOf vr).toNat)
  case atStart => exact ⟨2305843009213693951, x, 0, 1, rfl, by rw [ex.out], rfl, rfl, by omega, by omega, by omega, by omega, by
    obtain ⟨h1, h2, h3⟩ := H.out
    refine ⟨by simp, ?_, h2⟩
    rw [h1]; simp⟩
  case round =>
    obtain ⟨old, r, was, t, rfl, rfl, rfl, rfl, ho, hr, hw, ht, HR⟩ := hrel
    by_cases hz : r = 0
    · subst hz
      go_wp2
      go_ret
      refine ⟨retN ?_, rfl⟩
      obtain ⟨h1, h2, h3⟩ := HR.out
      rw [Nat.gcd_zero_right] at h3
      subst h3
      rw [inv_one a was (invP a) hw (invP_lt a) h1 (invP_mul a H.out.2.2)]
    · obtain ⟨q, hq⟩ : ∃ q, q = old / r := ⟨_, rfl⟩
      obtain ⟨c, hc⟩ : ∃ c, c = q * r := ⟨_, rfl⟩
      have hqo : q ≤ old := by rw [hq]; exact Nat.div_le_self old r
      have hco : c + old % r = old := by rw [hc, hq, Nat.mul_comm]; exact Nat.div_add_mod old r
      have hmr := Nat.mod_lt old (Nat.pos_of_ne_zero hz)
      obtain ⟨d, hd⟩ : ∃ d, d = old % r := ⟨_, rfl⟩
      rw [← hd] at hco hmr
      have e1 : IntKind.u64.wrap ((old : Int) / (r : Int)) = (q : Int) := by
        rw [← Int.natCast_ediv, ← hq, IntKind.wrap_u64]; omega
      have e2 : IntKind.u64.wrap ((q : Int) * (r : Int)) = (c : Int) := by
        rw [← Int.natCast_mul, ← hc, IntKind.wrap_u64]; omega
      have HQ : Hid (q = old / r ∧ d = old % r ∧ c + d = old) := ⟨hq, hd, hco⟩
      have hcl : c ≤ old := by omega
      clear hq hc hd hco
      have b1 := mulP_lt q t
      go_wp2_with fail
      refine (Mul_any q t (by omega) (by omega) _).mono ?_
      rintro e w' ⟨rfl, rfl⟩
      go_wp2_with fail
      refine (Sub_any was (mulP q t) (by omega) (by omega) _).mono ?_
      rintro e w' ⟨rfl, rfl⟩
      go_wp2
      go_round
      case rel =>
        obtain ⟨h1, h2, h3⟩ := HQ.out
        obtain ⟨g1, g2, g3⟩ := HR.out
        exact ⟨r, d, t, subP was (mulP q t), rfl, by go_num, rfl, rfl, by omega, by omega, ht, subP_lt _ _, by
          refine ⟨g2, ?_, ?_⟩
          · rw [h1, h2]; exact inv_step a old r was t g1 g2
          · rw [h2, Nat.gcd_comm, ← Nat.gcd_rec, Nat.gcd_comm]; exact g3⟩
      case measure =>
        have := HQ.out.2.2
        simp [intOf]
        omega
end R1
end Go.Proofs.Ythfaahngnnfefaa
