/-
  The library's math/bits.Div64 at the divisor 10^19 (its own text, walked): the greatest power of ten below 2^64.
-/
import Derived.Test.YtindmmipncclbaaDoorWideB
namespace Go.Proofs.YtindmmipncclbaaDoor
open Go.RowKit Wd
set_option linter.unusedVariables false

theorem Lz_any (w : World) :
    Calls Tryd.prog 41 #[.int .u64 10000000000000000000] w fun e w' => e = .returned (.int .i64 0) ∧ w' = w := by
  have e : wrap64 (64 - wrap64 (56 + wrap64 (Lib.len8 138))) = 0 := by kernel_rfl
  go_enter Tryd.func41, Tryd.ntmps41
  go_wp2
  simp only [e]
  go_ret
  exact ⟨rfl, rfl⟩

set_option maxHeartbeats 1000000 in
theorem Div0_any (l : Nat) (hl : l < 18446744073709551616) (w : World) :
    Calls Tryd.prog 33 #[.int .u64 0, .int .u64 (l : Nat), .int .u64 10000000000000000000] w fun e w' => e = .returned (.tuple #[.int .u64 ((l / 10000000000000000000 : Nat) : Int), .int .u64 ((l % 10000000000000000000 : Nat) : Int)]) ∧ Old w w' := by
  go_enter Tryd.func33, Tryd.ntmps33
  go_wp2_with fail
  go_quiet (fail)
  go_wp2
  go_ret2
  exact ⟨by simp, Old.of_drewN _ _⟩

namespace D19
theorem one_less {k m r u : Nat} (e : (k + 1) * m + r = u) : k * m + (r + m) = u := by rw [Nat.add_mul, Nat.one_mul] at e; omega
theorem le_quo {q n k : Nat} (hk : 0 < k) (h : q * k ≤ n) : q ≤ n / k := (Nat.le_div_iff_mul_le hk).2 h
theorem quo_lt {q n k : Nat} (hk : 0 < k) (h : n < q * k) : n / k < q := (Nat.div_lt_iff_lt_mul hk).2 h
theorem wrapN {z : Int} {n : Nat} (h : z % 18446744073709551616 = n) : IntKind.u64.wrap z = (n : Int) := h
/-- The number that a half's division begins with. -/
theorem begin_ {u : Nat} (hu : u < 10000000000000000000) : ∃ q p r : Nat, IntKind.u64.wrap ((u : Int) / 2328306436) = (q : Int) ∧ IntKind.u64.wrap ((q : Int) * 2328306436) = (p : Int) ∧ IntKind.u64.wrap ((u : Int) - p) = (r : Int) ∧ q = u / 2328306436 ∧ r = u % 2328306436 := by
  refine ⟨u / 2328306436, u / 2328306436 * 2328306436, u % 2328306436, wrapN ?_, wrapN ?_, wrapN ?_, rfl, rfl⟩
  · omega
  · omega
  · omega
/-- What is known in each round: u: what is left so far; d: the next digit. -/
def Est (u d q r : Nat) : Prop := q * 2328306436 + r = u ∧ (u * 4294967296 + d) / 10000000000000000000 ≤ q ∧ q ≤ 4294967296 ∧ r < 4294967296
theorem est0 {u d : Nat} (hu : u < 10000000000000000000) (hd : d < 4294967296) : Est u d (u / 2328306436) (u % 2328306436) := by
  unfold Est
  omega
theorem out {u d q r : Nat} (hu : u < 10000000000000000000) (hd : d < 4294967296) (E : Est u d q r) (h1 : ¬ 4294967296 ≤ q) (h2 : ¬ r * 4294967296 + d < q * 2313682944) : q = (u * 4294967296 + d) / 10000000000000000000 := by
  obtain ⟨e1, e2, e3, e4⟩ := E
  have k : q * 10000000000000000000 ≤ u * 4294967296 + d := by omega
  exact Nat.le_antisymm (le_quo (by omega) k) e2
theorem great {u d q r : Nat} (hu : u < 10000000000000000000) (hd : d < 4294967296) (E : Est u d q r) (h : 4294967296 ≤ q ∨ r * 4294967296 + d < q * 2313682944) : 1 ≤ q ∧ (u * 4294967296 + d) / 10000000000000000000 ≤ q - 1 := by
  obtain ⟨e1, e2, e3, e4⟩ := E
  have k : u * 4294967296 + d < q * 10000000000000000000 := by omega
  have k2 := quo_lt (by omega) k
  generalize (u * 4294967296 + d) / 10000000000000000000 = Q at *
  omega
set_option maxRecDepth 100000 in
theorem next {u d q r : Nat} (hu : u < 10000000000000000000) (hd : d < 4294967296) (E : Est u d q r) (h : 4294967296 ≤ q ∨ r * 4294967296 + d < q * 2313682944) (h3 : ¬ 4294967296 ≤ r + 2328306436) : Est u d (q - 1) (r + 2328306436) := by
  obtain ⟨g1, g2⟩ := great hu hd E h
  obtain ⟨e1, e2, e3, e4⟩ := E
  refine ⟨?_, g2, ?_, ?_⟩
  · obtain ⟨k, rfl⟩ : ∃ k, q = k + 1 := ⟨q - 1, by clear e2 g2 h h3 hu hd e3 e4; omega⟩
    rw [Nat.add_sub_cancel]
    exact one_less e1
  · clear e2 g2 h h3 hu hd e1
    omega
  · exact Nat.lt_of_not_le h3
theorem brk {u d q r : Nat} (hu : u < 10000000000000000000) (hd : d < 4294967296) (E : Est u d q r) (h : 4294967296 ≤ q ∨ r * 4294967296 + d < q * 2313682944) (h3 : 4294967296 ≤ r + 2328306436) : q - 1 = (u * 4294967296 + d) / 10000000000000000000 := by
  obtain ⟨g1, g2⟩ := great hu hd E h
  obtain ⟨e1, e2, e3, e4⟩ := E
  have k : (q - 1) * 10000000000000000000 ≤ u * 4294967296 + d := by omega
  exact Nat.le_antisymm (le_quo (by omega) k) g2
/-- The numbers of a round. -/
theorem round_ {u d q r : Nat} (hd : d < 4294967296) (E : Est u d q r) (h : ¬ 4294967296 ≤ q) : ∃ a b c : Nat, IntKind.u64.wrap ((q : Int) * 2313682944) = (a : Int) ∧ IntKind.u64.wrap (4294967296 * (r : Int)) = (b : Int) ∧ IntKind.u64.wrap ((b : Int) + d) = (c : Int) ∧ a = q * 2313682944 ∧ c = r * 4294967296 + d := by
  unfold Est at E
  exact ⟨q * 2313682944, r * 4294967296, r * 4294967296 + d, wrapN (by omega), wrapN (by omega), wrapN (by omega), rfl, rfl⟩
theorem less {q : Nat} (h1 : 1 ≤ q) (h2 : q ≤ 4294967296) : ∃ q' : Nat, IntKind.u64.wrap ((q : Int) - 1) = (q' : Int) ∧ q - 1 = q' := ⟨q - 1, wrapN (by omega), rfl⟩
theorem more {r : Nat} (h2 : r < 4294967296) : ∃ r' : Nat, IntKind.u64.wrap ((r : Int) + 2328306436) = (r' : Int) ∧ r + 2328306436 = r' := ⟨r + 2328306436, wrapN (by omega), rfl⟩
/-- What is left behind a digit. -/
theorem rest {u d : Nat} (hu : u < 10000000000000000000) (hd : d < 4294967296) : ∃ a b c e : Nat, IntKind.u64.wrap ((u : Int) * 4294967296) = (a : Int) ∧ IntKind.u64.wrap ((a : Int) + d) = (b : Int) ∧ IntKind.u64.wrap ((((u * 4294967296 + d) / 10000000000000000000 : Nat) : Int) * 10000000000000000000) = (c : Int) ∧ IntKind.u64.wrap ((b : Int) - c) = (e : Int) ∧ e = (u * 4294967296 + d) % 10000000000000000000 := by
  refine ⟨u * 4294967296 % 18446744073709551616, (u * 4294967296 + d) % 18446744073709551616, (u * 4294967296 + d) / 10000000000000000000 * 10000000000000000000 % 18446744073709551616, (u * 4294967296 + d) % 10000000000000000000, wrapN (by omega), wrapN (by omega), wrapN (by omega), wrapN ?_, rfl⟩
  omega
theorem unique {n q r k : Nat} (h : n = q * k + r) (hr : r < k) : n / k = q ∧ n % k = r := by
  subst h
  have hk : 0 < k := by omega
  refine ⟨?_, ?_⟩
  · rw [Nat.mul_comm, Nat.mul_add_div hk, Nat.div_eq_of_lt hr]; rfl
  · rw [Nat.mul_comm, Nat.mul_add_mod, Nat.mod_eq_of_lt hr]
theorem quo_rem {n q r k : Nat} (h1 : q = n / k) (h2 : r = n % k) : n = q * k + r := by rw [h1, h2, Nat.mul_comm, Nat.div_add_mod]
theorem join_eq {h l d d' Q R Q' R' b Y : Nat} (a3 : l = d * b + d') (a1 : h * b + d = Q * Y + R) (a2 : R * b + d' = Q' * Y + R') : h * (b * b) + l = (Q * b + Q') * Y + R' := by
  rw [a3, ← Nat.mul_assoc, ← Nat.add_assoc, ← Nat.add_mul, a1, Nat.add_mul, Nat.add_assoc, a2, Nat.add_mul, Nat.mul_right_comm, Nat.add_assoc]
theorem join {h l d d' Q R Q' R' : Nat} (hd : d = l / 4294967296) (hd' : d' = l % 4294967296) (hh : h < 10000000000000000000) (hQ : Q = (h * 4294967296 + d) / 10000000000000000000) (hR : R = (h * 4294967296 + d) % 10000000000000000000)
    (hQ' : Q' = (R * 4294967296 + d') / 10000000000000000000) (hR' : R' = (R * 4294967296 + d') % 10000000000000000000) :
    (h * 18446744073709551616 + l) / 10000000000000000000 = Q * 4294967296 + Q' ∧ (h * 18446744073709551616 + l) % 10000000000000000000 = R' := by
  have a1 := quo_rem hQ hR
  have a2 := quo_rem hQ' hR'
  have a3 := quo_rem hd hd'
  have a4 : R' < 10000000000000000000 := by rw [hR']; exact Nat.mod_lt _ (by omega)
  clear hQ hR hQ' hR' hd hd'
  exact unique (join_eq (b := 4294967296) a3 a1 a2) a4
theorem glue {h d R d' Q Q' : Nat} (hh : h < 10000000000000000000) (dl : d < 4294967296) (Rl : R < 10000000000000000000) (dl' : d' < 4294967296) (hQ : Q = (h * 4294967296 + d) / 10000000000000000000) (hQ' : Q' = (R * 4294967296 + d') / 10000000000000000000) :
    ∃ c1 c2 : Nat, IntKind.u64.wrap ((Q : Int) * 4294967296) = (c1 : Int) ∧ IntKind.u64.wrap ((c1 : Int) + Q') = (c2 : Int) ∧ c2 = Q * 4294967296 + Q' := by
  have a1 : Q < 4294967296 := by rw [hQ]; exact quo_lt (by omega) (by omega)
  have a2 : Q' < 4294967296 := by rw [hQ']; exact quo_lt (by omega) (by omega)
  clear hQ hQ'
  exact ⟨Q * 4294967296, Q * 4294967296 + Q', wrapN (by omega), wrapN (by omega), rfl⟩
end D19

set_option maxRecDepth 100000 in
set_option maxHeartbeats 4000000 in
theorem Div_any (h l : Nat) (hh : h < 10000000000000000000) (h0 : 0 < h) (hl : l < 18446744073709551616) (w : World) :
    Calls Tryd.prog 33 #[.int .u64 (h : Nat), .int .u64 (l : Nat), .int .u64 10000000000000000000] w fun e w' => e = .returned (.tuple #[.int .u64 (((h * 18446744073709551616 + l) / 10000000000000000000 : Nat) : Int), .int .u64 (((h * 18446744073709551616 + l) % 10000000000000000000 : Nat) : Int)]) ∧ w' = w := by
  obtain ⟨d, hd⟩ : ∃ d : Nat, d = l / 4294967296 := ⟨_, rfl⟩
  obtain ⟨d', hd'⟩ : ∃ d' : Nat, d' = l % 4294967296 := ⟨_, rfl⟩
  have dl : d < 4294967296 := by omega
  have dl' : d' < 4294967296 := by omega
  obtain ⟨Q, hQ⟩ : ∃ Q : Nat, Q = (h * 4294967296 + d) / 10000000000000000000 := ⟨_, rfl⟩
  obtain ⟨m1, m2, m3, R, f1, f2, f3, f4, hR⟩ := D19.rest hh dl
  have Rl : R < 10000000000000000000 := by rw [hR]; exact Nat.mod_lt _ (by omega)
  obtain ⟨Q', hQ'⟩ : ∃ Q' : Nat, Q' = (R * 4294967296 + d') / 10000000000000000000 := ⟨_, rfl⟩
  obtain ⟨n1, n2, n3, R', g1, g2, g3, g4, hR'⟩ := D19.rest Rl dl'
  rw [← hQ] at f3
  rw [← hQ'] at g3
  obtain ⟨q, p, r, s1, s2, s3, hq, hr⟩ := D19.begin_ hh
  obtain ⟨q', p', r', s1', s2', s3', hq', hr'⟩ := D19.begin_ Rl
  have E0 := hide (D19.est0 hh dl)
  have E0' := hide (D19.est0 Rl dl')
  rw [← hq, ← hr] at E0
  rw [← hq', ← hr'] at E0'
  have fin := hide (D19.join hd hd' hh hQ hR hQ' hR')
  obtain ⟨c1, c2, k1, k2, hc⟩ := D19.glue hh dl Rl dl' hQ hQ'
  rw [← hc] at fin
  rw [fin.out.1, fin.out.2]
  have C := hide Lz_any
  have t1 : decide ((10000000000000000000 : Int) ≤ h) = false := by simp; omega
  have t2 : ((h : Int) == 0) = false := by simp; omega
  have e1 : bits .and .u64 10000000000000000000 4294967295 = 2313682944 := by kernel_rfl
  have e2 : bits .or .u64 (h : Int) ((l : Int) / 18446744073709551616) = (h : Int) := by
    rw [show (l : Int) / 18446744073709551616 = ((0 : Nat) : Int) by omega, bits_or_u64_nat h 0 (by omega) (by omega), Nat.or_zero]
  have e3 : (l : Int) / 4294967296 = (d : Int) := by omega
  have e4 : bits .and .u64 (l : Int) 4294967295 = (d' : Int) := by
    have := bits_and_u64_nat l 4294967295 hl (by omega)
    rw [show l &&& 4294967295 = l % 4294967296 from Nat.and_two_pow_sub_one_eq_mod l 32, ← hd'] at this
    exact this
  have w1 : IntKind.u64.wrap (h : Int) = (h : Int) := D19.wrapN (by omega)
  have w2 : IntKind.u64.wrap (l : Int) = (l : Int) := D19.wrapN (by omega)
  have HH := hide (And.intro hh (And.intro dl (And.intro Rl dl')))
  have HQ := hide (And.intro hQ hQ')
  clear hd hd' hQ hQ' hR hR' hq hr hq' hr' hh h0 hl dl dl' Rl fin hc
  go_enter Tryd.func33, Tryd.ntmps33
  go_wp2_with (refine (C.out _).mono ?_; rintro e w' ⟨rfl, rfl⟩)
  clear C t1 t2 w1 w2 e1 e2 e3 e4
  go_loop [15, 16] (fun vq vr => ∃ q r : Nat, vq = .int .u64 (q : Int) ∧ vr = .int .u64 (r : Int) ∧ Hid (D19.Est h d q r)) (fun vq _ => (intOf vq).toNat)
  case atStart => exact ⟨_, _, rfl, rfl, E0⟩
  case round =>
    clear E0 s1 s2 s3
    obtain ⟨a, b, rfl, rfl, E⟩ := hrel
    have HE := E.out
    by_cases hA : 4294967296 ≤ a
    · have tA : decide ((4294967296 : Int) ≤ a) = true := by simp; omega
      obtain ⟨x1, x2⟩ := D19.great HH.out.1 HH.out.2.1 HE (Or.inl hA)
      obtain ⟨a', x3, ha⟩ := D19.less x1 HE.2.2.1
      obtain ⟨b', x4, hb⟩ := D19.more HE.2.2.2
      by_cases hB : 4294967296 ≤ b + 2328306436
      · have x5 := D19.brk HH.out.1 HH.out.2.1 HE (Or.inl hA) hB
        rw [← HQ.out.1, ha] at x5
        subst x5
        rw [hb] at hB
        have tB : decide ((4294967296 : Int) ≤ (b' : Int)) = true := by simp; omega
        clear hA hB HE E x2 ha hb x1
        go_wp2_with fail
        go_loop [18, 16] (fun vq vr => ∃ q r : Nat, vq = .int .u64 (q : Int) ∧ vr = .int .u64 (r : Int) ∧ Hid (D19.Est R d' q r)) (fun vq _ => (intOf vq).toNat)
        case atStart => exact ⟨_, _, rfl, rfl, E0'⟩
        case round =>
          clear E0' s1' s2' s3'
          obtain ⟨a, b, rfl, rfl, E⟩ := hrel
          have HE := E.out
          by_cases hA : 4294967296 ≤ a
          · have tA : decide ((4294967296 : Int) ≤ a) = true := by simp; omega
            obtain ⟨x1, x2⟩ := D19.great HH.out.2.2.1 HH.out.2.2.2 HE (Or.inl hA)
            obtain ⟨a', x3, ha⟩ := D19.less x1 HE.2.2.1
            obtain ⟨b', x4, hb⟩ := D19.more HE.2.2.2
            by_cases hB : 4294967296 ≤ b + 2328306436
            · have x5 := D19.brk HH.out.2.2.1 HH.out.2.2.2 HE (Or.inl hA) hB
              rw [← HQ.out.2, ha] at x5
              subst x5
              rw [hb] at hB
              have tB : decide ((4294967296 : Int) ≤ (b' : Int)) = true := by simp; omega
              clear hA hB HE E x2 ha hb x1
              go_wp2
              go_ret2
              exact ⟨rfl, rfl⟩
            · have NX := hide (D19.next HH.out.2.2.1 HH.out.2.2.2 HE (Or.inl hA) hB)
              rw [hb] at hB NX
              rw [ha] at NX
              have tB : decide ((4294967296 : Int) ≤ (b' : Int)) = false := by simp; omega
              have HM := hide (show a' < a by omega)
              clear hA hB HE E x2 ha hb x1
              go_wp2
              go_round
              case rel => exact ⟨a', b', rfl, rfl, NX⟩
              case measure => simp [intOf]; exact HM.out
          · have tA : decide ((4294967296 : Int) ≤ a) = false := by simp; omega
            obtain ⟨y1, y2, y3, z1, z2, z3, hy1, hy3⟩ := D19.round_ HH.out.2.2.2 HE hA
            by_cases hL : b * 4294967296 + d' < a * 2313682944
            · have tC : decide (y3 < y1) = true := by rw [hy1, hy3]; simp; omega
              obtain ⟨x1, x2⟩ := D19.great HH.out.2.2.1 HH.out.2.2.2 HE (Or.inr hL)
              obtain ⟨a', x3, ha⟩ := D19.less x1 HE.2.2.1
              obtain ⟨b', x4, hb⟩ := D19.more HE.2.2.2
              by_cases hB : 4294967296 ≤ b + 2328306436
              · have x5 := D19.brk HH.out.2.2.1 HH.out.2.2.2 HE (Or.inr hL) hB
                rw [← HQ.out.2, ha] at x5
                subst x5
                rw [hb] at hB
                have tB : decide ((4294967296 : Int) ≤ (b' : Int)) = true := by simp; omega
                clear hA hL hy1 hy3 hB HE E x2 ha hb x1
                go_wp2
                go_ret2
                exact ⟨rfl, rfl⟩
              · have NX := hide (D19.next HH.out.2.2.1 HH.out.2.2.2 HE (Or.inr hL) hB)
                rw [hb] at hB NX
                rw [ha] at NX
                have tB : decide ((4294967296 : Int) ≤ (b' : Int)) = false := by simp; omega
                have HM := hide (show a' < a by omega)
                clear hA hL hy1 hy3 hB HE E x2 ha hb x1
                go_wp2
                go_round
                case rel => exact ⟨a', b', rfl, rfl, NX⟩
                case measure => simp [intOf]; exact HM.out
            · have tC : decide (y3 < y1) = false := by rw [hy1, hy3]; simp; omega
              have x5 := D19.out HH.out.2.2.1 HH.out.2.2.2 HE hA hL
              rw [← HQ.out.2] at x5
              subst x5
              clear hA hL HE E hy1 hy3
              go_wp2
              go_ret2
              exact ⟨rfl, rfl⟩
      · have NX := hide (D19.next HH.out.1 HH.out.2.1 HE (Or.inl hA) hB)
        rw [hb] at hB NX
        rw [ha] at NX
        have tB : decide ((4294967296 : Int) ≤ (b' : Int)) = false := by simp; omega
        have HM := hide (show a' < a by omega)
        clear hA hB HE E x2 ha hb x1
        go_wp2
        go_round
        case rel => exact ⟨a', b', rfl, rfl, NX⟩
        case measure => simp [intOf]; exact HM.out
    · have tA : decide ((4294967296 : Int) ≤ a) = false := by simp; omega
      obtain ⟨y1, y2, y3, z1, z2, z3, hy1, hy3⟩ := D19.round_ HH.out.2.1 HE hA
      by_cases hL : b * 4294967296 + d < a * 2313682944
      · have tC : decide (y3 < y1) = true := by rw [hy1, hy3]; simp; omega
        obtain ⟨x1, x2⟩ := D19.great HH.out.1 HH.out.2.1 HE (Or.inr hL)
        obtain ⟨a', x3, ha⟩ := D19.less x1 HE.2.2.1
        obtain ⟨b', x4, hb⟩ := D19.more HE.2.2.2
        by_cases hB : 4294967296 ≤ b + 2328306436
        · have x5 := D19.brk HH.out.1 HH.out.2.1 HE (Or.inr hL) hB
          rw [← HQ.out.1, ha] at x5
          subst x5
          rw [hb] at hB
          have tB : decide ((4294967296 : Int) ≤ (b' : Int)) = true := by simp; omega
          clear hA hL hy1 hy3 hB HE E x2 ha hb x1
          go_wp2_with fail
          go_loop [18, 16] (fun vq vr => ∃ q r : Nat, vq = .int .u64 (q : Int) ∧ vr = .int .u64 (r : Int) ∧ Hid (D19.Est R d' q r)) (fun vq _ => (intOf vq).toNat)
          case atStart => exact ⟨_, _, rfl, rfl, E0'⟩
          case round =>
            clear E0' s1' s2' s3'
            obtain ⟨a, b, rfl, rfl, E⟩ := hrel
            have HE := E.out
            by_cases hA : 4294967296 ≤ a
            · have tA : decide ((4294967296 : Int) ≤ a) = true := by simp; omega
              obtain ⟨x1, x2⟩ := D19.great HH.out.2.2.1 HH.out.2.2.2 HE (Or.inl hA)
              obtain ⟨a', x3, ha⟩ := D19.less x1 HE.2.2.1
              obtain ⟨b', x4, hb⟩ := D19.more HE.2.2.2
              by_cases hB : 4294967296 ≤ b + 2328306436
              · have x5 := D19.brk HH.out.2.2.1 HH.out.2.2.2 HE (Or.inl hA) hB
                rw [← HQ.out.2, ha] at x5
                subst x5
                rw [hb] at hB
                have tB : decide ((4294967296 : Int) ≤ (b' : Int)) = true := by simp; omega
                clear hA hB HE E x2 ha hb x1
                go_wp2
                go_ret2
                exact ⟨rfl, rfl⟩
              · have NX := hide (D19.next HH.out.2.2.1 HH.out.2.2.2 HE (Or.inl hA) hB)
                rw [hb] at hB NX
                rw [ha] at NX
                have tB : decide ((4294967296 : Int) ≤ (b' : Int)) = false := by simp; omega
                have HM := hide (show a' < a by omega)
                clear hA hB HE E x2 ha hb x1
                go_wp2
                go_round
                case rel => exact ⟨a', b', rfl, rfl, NX⟩
                case measure => simp [intOf]; exact HM.out
            · have tA : decide ((4294967296 : Int) ≤ a) = false := by simp; omega
              obtain ⟨y1, y2, y3, z1, z2, z3, hy1, hy3⟩ := D19.round_ HH.out.2.2.2 HE hA
              by_cases hL : b * 4294967296 + d' < a * 2313682944
              · have tC : decide (y3 < y1) = true := by rw [hy1, hy3]; simp; omega
                obtain ⟨x1, x2⟩ := D19.great HH.out.2.2.1 HH.out.2.2.2 HE (Or.inr hL)
                obtain ⟨a', x3, ha⟩ := D19.less x1 HE.2.2.1
                obtain ⟨b', x4, hb⟩ := D19.more HE.2.2.2
                by_cases hB : 4294967296 ≤ b + 2328306436
                · have x5 := D19.brk HH.out.2.2.1 HH.out.2.2.2 HE (Or.inr hL) hB
                  rw [← HQ.out.2, ha] at x5
                  subst x5
                  rw [hb] at hB
                  have tB : decide ((4294967296 : Int) ≤ (b' : Int)) = true := by simp; omega
                  clear hA hL hy1 hy3 hB HE E x2 ha hb x1
                  go_wp2
                  go_ret2
                  exact ⟨rfl, rfl⟩
                · have NX := hide (D19.next HH.out.2.2.1 HH.out.2.2.2 HE (Or.inr hL) hB)
                  rw [hb] at hB NX
                  rw [ha] at NX
                  have tB : decide ((4294967296 : Int) ≤ (b' : Int)) = false := by simp; omega
                  have HM := hide (show a' < a by omega)
                  clear hA hL hy1 hy3 hB HE E x2 ha hb x1
                  go_wp2
                  go_round
                  case rel => exact ⟨a', b', rfl, rfl, NX⟩
                  case measure => simp [intOf]; exact HM.out
              · have tC : decide (y3 < y1) = false := by rw [hy1, hy3]; simp; omega
                have x5 := D19.out HH.out.2.2.1 HH.out.2.2.2 HE hA hL
                rw [← HQ.out.2] at x5
                subst x5
                clear hA hL HE E hy1 hy3
                go_wp2
                go_ret2
                exact ⟨rfl, rfl⟩
        · have NX := hide (D19.next HH.out.1 HH.out.2.1 HE (Or.inr hL) hB)
          rw [hb] at hB NX
          rw [ha] at NX
          have tB : decide ((4294967296 : Int) ≤ (b' : Int)) = false := by simp; omega
          have HM := hide (show a' < a by omega)
          clear hA hL hy1 hy3 hB HE E x2 ha hb x1
          go_wp2
          go_round
          case rel => exact ⟨a', b', rfl, rfl, NX⟩
          case measure => simp [intOf]; exact HM.out
      · have tC : decide (y3 < y1) = false := by rw [hy1, hy3]; simp; omega
        have x5 := D19.out HH.out.1 HH.out.2.1 HE hA hL
        rw [← HQ.out.1] at x5
        subst x5
        clear hA hL HE E hy1 hy3
        go_wp2_with fail
        go_loop [18, 16] (fun vq vr => ∃ q r : Nat, vq = .int .u64 (q : Int) ∧ vr = .int .u64 (r : Int) ∧ Hid (D19.Est R d' q r)) (fun vq _ => (intOf vq).toNat)
        case atStart => exact ⟨_, _, rfl, rfl, E0'⟩
        case round =>
          clear E0' s1' s2' s3'
          obtain ⟨a, b, rfl, rfl, E⟩ := hrel
          have HE := E.out
          by_cases hA : 4294967296 ≤ a
          · have tA : decide ((4294967296 : Int) ≤ a) = true := by simp; omega
            obtain ⟨x1, x2⟩ := D19.great HH.out.2.2.1 HH.out.2.2.2 HE (Or.inl hA)
            obtain ⟨a', x3, ha⟩ := D19.less x1 HE.2.2.1
            obtain ⟨b', x4, hb⟩ := D19.more HE.2.2.2
            by_cases hB : 4294967296 ≤ b + 2328306436
            · have x5 := D19.brk HH.out.2.2.1 HH.out.2.2.2 HE (Or.inl hA) hB
              rw [← HQ.out.2, ha] at x5
              subst x5
              rw [hb] at hB
              have tB : decide ((4294967296 : Int) ≤ (b' : Int)) = true := by simp; omega
              clear hA hB HE E x2 ha hb x1
              go_wp2
              go_ret2
              exact ⟨rfl, rfl⟩
            · have NX := hide (D19.next HH.out.2.2.1 HH.out.2.2.2 HE (Or.inl hA) hB)
              rw [hb] at hB NX
              rw [ha] at NX
              have tB : decide ((4294967296 : Int) ≤ (b' : Int)) = false := by simp; omega
              have HM := hide (show a' < a by omega)
              clear hA hB HE E x2 ha hb x1
              go_wp2
              go_round
              case rel => exact ⟨a', b', rfl, rfl, NX⟩
              case measure => simp [intOf]; exact HM.out
          · have tA : decide ((4294967296 : Int) ≤ a) = false := by simp; omega
            obtain ⟨y1, y2, y3, z1, z2, z3, hy1, hy3⟩ := D19.round_ HH.out.2.2.2 HE hA
            by_cases hL : b * 4294967296 + d' < a * 2313682944
            · have tC : decide (y3 < y1) = true := by rw [hy1, hy3]; simp; omega
              obtain ⟨x1, x2⟩ := D19.great HH.out.2.2.1 HH.out.2.2.2 HE (Or.inr hL)
              obtain ⟨a', x3, ha⟩ := D19.less x1 HE.2.2.1
              obtain ⟨b', x4, hb⟩ := D19.more HE.2.2.2
              by_cases hB : 4294967296 ≤ b + 2328306436
              · have x5 := D19.brk HH.out.2.2.1 HH.out.2.2.2 HE (Or.inr hL) hB
                rw [← HQ.out.2, ha] at x5
                subst x5
                rw [hb] at hB
                have tB : decide ((4294967296 : Int) ≤ (b' : Int)) = true := by simp; omega
                clear hA hL hy1 hy3 hB HE E x2 ha hb x1
                go_wp2
                go_ret2
                exact ⟨rfl, rfl⟩
              · have NX := hide (D19.next HH.out.2.2.1 HH.out.2.2.2 HE (Or.inr hL) hB)
                rw [hb] at hB NX
                rw [ha] at NX
                have tB : decide ((4294967296 : Int) ≤ (b' : Int)) = false := by simp; omega
                have HM := hide (show a' < a by omega)
                clear hA hL hy1 hy3 hB HE E x2 ha hb x1
                go_wp2
                go_round
                case rel => exact ⟨a', b', rfl, rfl, NX⟩
                case measure => simp [intOf]; exact HM.out
            · have tC : decide (y3 < y1) = false := by rw [hy1, hy3]; simp; omega
              have x5 := D19.out HH.out.2.2.1 HH.out.2.2.2 HE hA hL
              rw [← HQ.out.2] at x5
              subst x5
              clear hA hL HE E hy1 hy3
              go_wp2
              go_ret2
              exact ⟨rfl, rfl⟩
end Go.Proofs.YtindmmipncclbaaDoor
