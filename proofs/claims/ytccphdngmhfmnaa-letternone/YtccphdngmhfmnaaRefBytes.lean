/-
  The document's own Bytes as a field, and what is taken of fields (offertoryref14).
-/
import Derived.Test.YtccphdngmhfmnaaRefFields
namespace Go.Proofs.Ytccphdngmhfmnaa
open Go.RowKit Cn
set_option linter.unusedVariables false

set_option maxHeartbeats 2000000 in
theorem refBytes14_any (xs : List Nat) (b : Option Addr) (n cap : Nat) (hx : ∀ x ∈ xs, x < 256) (hn : xs.length = n) (hl : n ≤ 1000000) (w : World) (rd : Rd w b (nums .u8 xs)) :
    Calls Try.prog 15 #[.slice b n cap] w fun e w' => e = .returned (.string (Ssb.bstr (fieldB xs))) ∧ Old w w' := by
  have E : Hid (Ssb.bstr (fieldB xs) = Ssb.bstr (le4 n) ++ Ssb.bstr xs) := by unfold fieldB; rw [Hid, bs_append, hn]
  have z1 : (Ssb.bstr xs).size ≤ 1000000 := by rw [bs_size]; omega
  have z2 : (Ssb.bstr (le4 n)).size = 4 := by rw [bs_size]; rfl
  have C1 := hide (fun y : After w => refSmall14_any n (by omega) y.to)
  have CV : ∀ y : After w, (convert 26 9 (.slice b n cap)).run Try.prog y.to = .ok (.string (Ssb.bstr xs)) y.to := fun y => Ssb.run_bstr Try.underlying26 Try.underlying5 Try.underlying9 hn (rd.mono y.old)
  have ne : Nonempty (After w) := ⟨⟨_, Old.refl _⟩⟩
  generalize le4 n = la at C1 z2 E
  clear hx rd hn hl
  go_enter Try.func15, Try.ntmps15
  go_wp2_with fail
  refine wp_region_calm (by kernel_rfl) (by kernel_rfl) ?_
  repeat (go_big_quiet_step (first | with_reducible exact calm_of (C1.out _)))
  refine wpQuiet_nil ?_
  rintro _ ⟨⟨w3, o3⟩, rfl⟩
  go_wp2
  go_ret
  exact ⟨by rw [E.out]; rfl, o3⟩
end Go.Proofs.Ytccphdngmhfmnaa
