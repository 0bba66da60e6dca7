/-
  Package poly: lists cut behind their last number that counts, and a polynomial's value.
-/
import Derived.Test.YthfaahngnnfefaaPolyC
import Derived.Test.YthfaahngnnfefaaPolyM
import Derived.Test.YthfaahngnnfefaaPowers
import Derived.Test.YthfaahngnnfefaaFew
namespace Go.Proofs.Ythfaahngnnfefaa
open Go.RowKit M Pm
set_option linter.unusedVariables false

set_option maxHeartbeats 1000000 in
theorem trimmed_any (l : List Nat) (n : Nat) (a : Option Addr) (cap : Nat) (w : World) (hl : l.length = n) (hn : n ≤ 1099511627776) (hc : n ≤ cap) (hb : ∀ y ∈ l, y < 18446744073709551616) (rd : Rd w a (nums .u64 l)) :
    Calls Try.prog 48 #[.slice a n cap] w fun e w' => e = .returned (.slice a (lastK l n) cap) ∧ w' = w := by
  have HL := hide hl
  have HB := hide hb
  clear hl hb
  go_enter Try.func48, Try.ntmps48
  go_wp2_with fail
  go_loop [0] (fun vp => ∃ k : Nat, k ≤ n ∧ vp = .slice a k cap ∧ Hid (lastK l n = lastK l k)) (fun vp => match vp with | .slice _ k _ => k | _ => 0)
  case atStart => exact ⟨n, by omega, rfl, rfl⟩
  case round =>
    obtain ⟨k, hk, rfl, H⟩ := hrel
    match k, hk, H with
    | 0, hk, H =>
      go_wp2
      go_ret
      rw [H.out]
      exact ⟨rfl, rfl⟩
    | k + 1, hk, H =>
      obtain ⟨b, off, y, rfl, Hy, hcy⟩ := rd.num (i := k) (by rw [HL.out]; omega)
      have ly := HB.out y (List.mem_of_getElem? Hy.out)
      have ey : Hid (l.getD k 0 = y) := by show _ = _; rw [List.getD_eq_getElem?_getD, Hy.out]; rfl
      have e1 : (((k + 1 : Nat) : Int) - 1) = (k : Int) := by omega
      have g1 : decide (((k + 1 : Nat) : Int) > 0) = true := decide_eq_true (by omega)
      have g2 : decide ((0 : Int) < ((k + 1 : Nat) : Int)) = true := decide_eq_true (by omega)
      go_wp2_with fail
      refine (Mod_any y ly _).mono ?_
      rintro e w' ⟨rfl, rfl⟩
      by_cases hy0 : md y = 0
      · have hd : (((md y : Nat) : Int) == 0) = true := by rw [beq_iff_eq]; omega
        go_wp2
        go_round
        case rel => exact ⟨k, by omega, by go_num, by show _ = _; rw [H.out, lastK, ey.out, if_pos hy0]⟩
        case measure => simp
      · have hd : (((md y : Nat) : Int) == 0) = false := by rw [beq_eq_false_iff_ne]; omega
        go_wp2
        go_ret
        rw [H.out, lastK, ey.out, if_neg hy0]
        exact ⟨rfl, rfl⟩

set_option maxHeartbeats 1000000 in
theorem polyAt_any (l : List Nat) (n x : Nat) (a : Option Addr) (cap : Nat) (w : World) (hl : l.length = n) (hn : n ≤ 1099511627776) (hb : ∀ y ∈ l, y < 18446744073709551616) (hx : x < 18446744073709551616) (rd : Rd w a (nums .u64 l)) :
    Calls Try.prog 34 #[.slice a n cap, .int .u64 (x : Nat)] w fun e w' => e = .returned (.int .u64 (evN l x : Nat)) ∧ ∃ m, w' = w.drewN m := by
  have HL := hide hl
  have HB := hide hb
  clear hl hb
  go_enter Try.func34, Try.ntmps34
  go_wp2_with fail
  go_loopw [5, 6] (fun vv vi wr => ∃ k : Nat, k ≤ n ∧ vi = .int .i64 ((k : Int) - 1) ∧ vv = .int .u64 (evN (l.drop k) x : Nat) ∧ Hid (∃ m, wr = w.drewN m)) (fun _ vi _ => (intOf vi + 1).toNat)
  case atStart => exact ⟨n, by omega, by go_num, by rw [List.drop_of_length_le (by rw [HL.out]; omega), evN_nil]; rfl, ⟨0, rfl⟩⟩
  case round =>
    obtain ⟨k, hk, rfl, rfl, W⟩ := hrel
    match k, hk with
    | 0, hk =>
      have g1 : decide ((0 : Int) ≤ ((0 : Nat) : Int) - 1) = false := by simp
      go_wp2
      go_ret
      exact ⟨rfl, W.out⟩
    | k + 1, hk =>
      have hol : Old w wr := by obtain ⟨m, hm⟩ := W.out; rw [hm]; exact Old.of_drewN _ _
      obtain ⟨b, off, y, rfl, Hy, hcy⟩ := (rd.mono hol).num (i := k) (by rw [HL.out]; omega)
      have ly := HB.out y (List.mem_of_getElem? Hy.out)
      clear hol
      have e1 : (((k + 1 : Nat) : Int) - 1) = (k : Int) := by omega
      have hki : (0 : Int) ≤ k := by omega
      have hki2 : (k : Int) < n := by omega
      have le := evN_lt (l.drop (k + 1)) x
      have E := hide (evN_down x Hy.out)
      revert le E
      generalize evN (l.drop (k + 1)) x = v
      intro le E
      have lm := mulP_lt v x
      rw [e1]
      go_wp2_with fail
      go_quiet (first
        | exact Calls.quiet_of_same (Mul_any v x (by omega) hx _)
        | exact Calls.quiet_of_same (Add_any (mulP v x) y (by omega) ly _))
      go_wp2
      go_roundw
      case rel => exact ⟨k, by omega, by go_num, by rw [E.out], by obtain ⟨m, hm⟩ := W.out; exact ⟨_, by rw [hm, World.drewN_drewN]⟩⟩
      case measure => simp [intOf]
end Go.Proofs.Ythfaahngnnfefaa
