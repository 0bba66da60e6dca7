/-
  Layer 14's statements: LetterNone, LetterChecks.
-/
import Derived.Test.YtccphdngmhfmnaaAwake14
import Derived.Test.YtccphdngmhfmnaaOpen
namespace Go.Proofs.Ytccphdngmhfmnaa
open Go.RowKit Cn
set_option linter.unusedVariables false

theorem By14.of {w : World} {v : Value} (h : IsNums .u8 256 140737488351232 w v) : ∃ b n cap xs, v = .slice b n cap ∧ By14 w b n cap xs := by
  obtain ⟨b, n, cap, xs, rfl, l, e, r, m, c⟩ := h
  exact ⟨b, n, cap, xs, rfl, l, c, by omega, e, r⟩
theorem By14.cut {w : World} {b : Option Addr} {n cap : Nat} {xs : List Nat} (h : By14 w b n cap xs) (k : Nat) (hk : k ≤ n) : By14 w b k cap (xs.take k) :=
  ⟨by rw [List.length_take, h.len]; omega, by have := h.room; omega, by have := h.small; omega, fun x hx => h.each x (List.mem_of_mem_take hx), fun i v hv => by
    rw [show nums .u8 (xs.take k) = (nums .u8 xs).take k by simp [nums, List.map_take], List.getElem?_take] at hv
    split at hv
    · exact h.rd i v hv
    · cases hv⟩

set_option maxRecDepth 100000 in
set_option maxHeartbeats 4000000 in
theorem walkK_LetterNone (K : LetterK) (v0 v1 v2 : Value) (w : World) (w0 : IsInt .i64 v0) (w1 : IsInt .u64 v1) (w2 : IsNums .u8 256 140737488351232 w v2) :
    Calls Try.prog 7 #[v0, v1, v2] w fun e w' => e = .returned (.bool true) ∧ Old w w' := by
  obtain ⟨n, rfl, _⟩ := w0
  obtain ⟨gz, rfl, hg⟩ := w1
  obtain ⟨g, rfl⟩ : ∃ g : Nat, gz = (g : Int) := ⟨gz.toNat, by have := bounds_u64 hg; omega⟩
  obtain ⟨b, k, cap, xs, rfl, Y⟩ := By14.of w2
  clear hg Y w2
  have AW := hide (awake14 K)
  go_enter Try.func7, Try.ntmps7
  go_wp2_with fail
  refine (K.sealN _).mono ?_
  rintro e w1 ⟨a1, c1, rfl, o1⟩
  have O1 := hide o1
  clear o1
  go_wp2_with fail
  refine (AW.out _).mono ?_
  rintro e w2 ⟨rfl, o2⟩
  have O2 := hide (O1.out.trans o2)
  clear O1 o2 AW
  go_wp2_with fail
  refine (K.smallN n _).mono ?_
  rintro e w3 ⟨rfl, o3⟩
  have O3 := hide (O2.out.trans o3)
  clear O2 o3
  go_wp2_with fail
  refine (K.greatN g _).mono ?_
  rintro e w4 ⟨rfl, o4⟩
  have O4 := hide (O3.out.trans o4)
  clear O3 o4
  go_wp2_with fail
  refine (K.bytesN b k cap _).mono ?_
  rintro e w5 ⟨rfl, o5⟩
  have O5 := hide (O4.out.trans o5)
  clear O4 o5
  go_wp2_with fail
  refine (K.eSmallN _).mono ?_
  rintro e w6 ⟨rfl, o6⟩
  have O6 := hide (O5.out.trans o6)
  clear O5 o6
  go_wp2_with fail
  refine (K.eGreatN _).mono ?_
  rintro e w7 ⟨rfl, o7⟩
  have O7 := hide (O6.out.trans o7)
  clear O6 o7
  go_wp2_with fail
  refine (K.eBytesN _).mono ?_
  rintro e w8 ⟨a8, c8, rfl, o8⟩
  have O8 := hide (O7.out.trans o8)
  clear O7 o8
  go_wp2_with fail
  refine (K.eEndN _).mono ?_
  rintro e w9 ⟨rfl, o9⟩
  have O9 := hide (O8.out.trans o9)
  clear O8 o9
  go_wp2
  go_ret
  exact ⟨by simp, O9.out⟩

/-- Behind the cut: the check of at most 5000 bytes. -/
theorem check_pair (K : LetterK) {w : World} {b : Option Addr} {n cap : Nat} {xs : List Nat} (Y : By14 w b n cap xs) (hn : n ≤ 5000) :
    (∀ y : After w, Calls Try.prog 26 #[.slice b n cap] y.to fun e w' => e = .returned (.int .u32 ((crc xs : Nat) : Int)) ∧ Old y.to w') ∧
    (∀ y : After w, Calls Try.prog 27 #[.string (Ssb.bstr xs)] y.to fun e w' => e = .returned (.int .u32 ((crc xs : Nat) : Int)) ∧ Old y.to w') ∧
    (∀ y : After w, (convert 26 9 (.slice b n cap)).run Try.prog y.to = .ok (.string (Ssb.bstr xs)) y.to) :=
  ⟨fun y => K.check b n cap xs y.to (Y.mono y.old) (by omega), fun y => (refCheck14_any xs Y.each (by have := Y.len; omega) y.to).mono fun _ _ ⟨h1, h2⟩ => ⟨h1, h2 ▸ Old.refl _⟩, fun y => Ssb.run_bstr Try.underlying26 Try.underlying5 Try.underlying9 Y.len (Y.mono y.old).rd⟩

set_option maxHeartbeats 4000000 in
theorem walkK_LetterChecks (K : LetterK) (v0 : Value) (w : World) (w0 : IsNums .u8 256 140737488351232 w v0) :
    Calls Try.prog 5 #[v0] w fun e w' => e = .returned (.bool true) ∧ Old w w' := by
  obtain ⟨b, n, cap, xs, rfl, Y⟩ := By14.of w0
  have C0 := hide (fun y : After w => awake14 K y.to)
  have ne : Nonempty (After w) := ⟨⟨_, Old.refl _⟩⟩
  clear w0
  by_cases h : 5000 < n
  · have t1 : decide ((5000 : Int) < n) = true := by simp; omega
    have t1' : decide ((n : Int) > 5000) = true := t1
    have hc : (5000 : Int) ≤ cap := by have := Y.room; omega
    have hc' : 5000 ≤ cap := by have := Y.room; omega
    have P := check_pair K (Y.cut 5000 (by omega)) (by omega)
    have C1 := hide P.1
    have C2 := hide P.2.1
    have CV := P.2.2
    clear P Y h
    generalize crc (xs.take 5000) = cc at *
    generalize Ssb.bstr (xs.take 5000) = ss at *
    go_enter Try.func5, Try.ntmps5
    go_wp2_with fail
    refine wp_region_calm (by kernel_rfl) (by kernel_rfl) ?_
    repeat (go_big_quiet_step (first | with_reducible exact calm_of (C0.out _) | with_reducible exact calm_of (C1.out _) | with_reducible exact calm_of (C2.out _)))
    refine wpQuiet_nil ?_
    rintro _ ⟨⟨w3, o3⟩, rfl⟩
    go_wp2
    go_ret
    exact ⟨by simp, o3⟩
  · have t1 : decide ((5000 : Int) < n) = false := by simp; omega
    have t1' : decide ((n : Int) > 5000) = false := t1
    have P := check_pair K Y (by omega)
    have C1 := hide P.1
    have C2 := hide P.2.1
    have CV := P.2.2
    clear P Y h
    generalize crc xs = cc at *
    generalize Ssb.bstr xs = ss at *
    go_enter Try.func5, Try.ntmps5
    go_wp2_with fail
    refine wp_region_calm (by kernel_rfl) (by kernel_rfl) ?_
    repeat (go_big_quiet_step (first | with_reducible exact calm_of (C0.out _) | with_reducible exact calm_of (C1.out _) | with_reducible exact calm_of (C2.out _)))
    refine wpQuiet_nil ?_
    rintro _ ⟨⟨w3, o3⟩, rfl⟩
    go_wp2
    go_ret
    exact ⟨by simp, o3⟩
end Go.Proofs.Ytccphdngmhfmnaa
