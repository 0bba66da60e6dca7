/-
  What tally's Len owes, told by values alone.
-/
import Derived.Test.YthaaajepolahfaaProg
import Derived.Test.YthaaajepolahfaaTallyN
import Derived.Test.YthaaajepolahfaaPlanN
namespace Go.Proofs.Ythaaajepolahfaa
open Go.RowKit Pn
set_option linter.unusedVariables false

/-- How many bits a place of the plan has. -/
def bN (lo hi : Int) : Nat := bitsN (hi - lo).toNat
def lenS (s lo hi : Int) (es : List Int) : Int := if s = 0 then ((lenN es (bN lo hi) : Nat) : Int) else 0

def LenC12 : Prop := ∀ (lo hi mo : Int) (a : Option Addr) (n cap : Nat) (es : List Int) (w : World), Fit w lo hi mo a n es → Calls Try.prog 45 #[pv lo hi mo a n cap] w fun e w' => e = .returned (.tuple #[.int .i64 (lenS (soundZ lo hi mo es) lo hi es), .int .i64 (soundZ lo hi mo es)]) ∧ Old w w'
end Go.Proofs.Ythaaajepolahfaa
