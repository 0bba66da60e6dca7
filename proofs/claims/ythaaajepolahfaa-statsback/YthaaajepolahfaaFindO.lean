/-
  What bin's Find owes, told by values alone.
-/
import Derived.Test.YthaaajepolahfaaRefBin
namespace Go.Proofs.Ythaaajepolahfaa
open Go.RowKit Pn
set_option linter.unusedVariables false

def FindC11 : Prop := ∀ (lo hi mo x : Int) (a : Option Addr) (n cap : Nat) (es : List Int) (w : World), B64 x → Fit w lo hi mo a n es → Calls Try.prog 23 #[pv lo hi mo a n cap, .int .i64 x] w fun e w' => e = .returned (.tuple #[.int .i64 (binS (soundZ lo hi mo es) lo hi es x), .int .i64 (soundZ lo hi mo es)]) ∧ Old w w'
end Go.Proofs.Ythaaajepolahfaa
