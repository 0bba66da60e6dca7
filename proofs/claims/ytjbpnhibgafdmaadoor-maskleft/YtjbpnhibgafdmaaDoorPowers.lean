/-
  What prime.Pow and prime.Inv answer at any numbers: the power and the power to 2^61 - 3, modulo 2^61 - 1.
-/
import Derived.Test.YtjbpnhibgafdmaaDoorPrime
import Derived.Test.YtjbpnhibgafdmaaDoorField
namespace Go.Proofs.YtjbpnhibgafdmaaDoor
open Go.RowKit M
set_option linter.unusedVariables false

set_option maxHeartbeats 1000000 in
theorem Pow_any (a n : Nat) (ha : a < 18446744073709551616) (hn : n < 18446744073709551616) (w : World) :
    Calls Tryd.prog 52 #[.int .u64 a, .int .u64 n] w fun e w' => e = .returned (.int .u64 (powP a n)) ∧ w' = w := by
  go_enter Tryd.func52, Tryd.ntmps52
  go_wp2_with fail
  refine (of_any a ha _).mono ?_
  rintro e w' ⟨rfl, rfl⟩
  go_wp2_with fail
  go_loop [1, 5, 6] (fun vn vr vs => ∃ m r s : Nat, vn = .int .u64 m ∧ vr = .int .u64 r ∧ vs = .int .u64 s ∧ m < 18446744073709551616 ∧ r < 2305843009213693951 ∧ s < 2305843009213693951 ∧ Hid (mulP r (powP s m) = powP a n)) (fun vn _ _ => (intOf vn).toNat)
  case atStart => exact ⟨n, 1, md a, rfl, rfl, rfl, hn, by omega, md_lt a, by
    show mulP 1 (powP (md a) n) = powP a n
    rw [one_mulP, md_powP]; exact powP_mod a n⟩
  case round =>
    obtain ⟨m, r, s, rfl, rfl, rfl, hm, hr, hs, H⟩ := hrel
    by_cases h0 : m = 0
    · subst h0
      go_wp2
      go_ret
      refine ⟨retN ?_, rfl⟩
      have h := H.out
      rw [powP_zero, mulP_one, md_of_lt hr] at h
      rw [h]
    · have hb : bits BinOp.and IntKind.u64 (m : Int) 1 = (m : Int) % 2 := and_one_u64 m (by omega) (by omega)
      by_cases h1 : m % 2 = 1
      · go_wp2_with fail
        refine (times_any r s hr hs _).mono ?_
        rintro e w' ⟨rfl, rfl⟩
        go_wp2_with fail
        refine (times_any s s hs hs _).mono ?_
        rintro e w' ⟨rfl, rfl⟩
        go_wp2
        go_round
        case rel => exact ⟨m / 2, mulP r s, mulP s s, by go_num, rfl, rfl, by omega, mulP_lt _ _, mulP_lt _ _, by
          show mulP (mulP r s) (powP (mulP s s) (m / 2)) = powP a n
          rw [pow_odd r s m h1]; exact H.out⟩
        case measure => simp [intOf]; omega
      · go_wp2_with fail
        refine (times_any s s hs hs _).mono ?_
        rintro e w' ⟨rfl, rfl⟩
        go_wp2
        go_round
        case rel => exact ⟨m / 2, r, mulP s s, by go_num, rfl, rfl, by omega, hr, mulP_lt _ _, by
          show mulP r (powP (mulP s s) (m / 2)) = powP a n
          rw [pow_even r s m (by omega)]; exact H.out⟩
        case measure => simp [intOf]; omega



end Go.Proofs.YtjbpnhibgafdmaaDoor