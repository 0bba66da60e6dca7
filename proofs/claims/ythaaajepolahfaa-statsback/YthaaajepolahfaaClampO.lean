/-
  What layer 10's calls owe, told by values alone.
-/
import Derived.Test.YthaaajepolahfaaRefClamp
import Derived.Test.YthaaajepolahfaaWhole
namespace Go.Proofs.Ythaaajepolahfaa
open Go.RowKit Pn
set_option linter.unusedVariables false

def SoundC10 : Prop := ∀ (lo hi mo : Int) (a : Option Addr) (n cap : Nat) (es : List Int) (w : World), Fit w lo hi mo a n es → Calls Try.prog 21 #[pv lo hi mo a n cap] w fun e w' => e = .returned (.int .i64 (soundZ lo hi mo es)) ∧ Old w w'

def BitsC10 : Prop := ∀ (lo hi mo : Int) (a : Option Addr) (n cap : Nat) (es : List Int) (w : World), Fit w lo hi mo a n es → Calls Try.prog 46 #[pv lo hi mo a n cap] w fun e w' => e = .returned (.tuple #[.int .i64 (bitsS (soundZ lo hi mo es) lo hi), .int .i64 (soundZ lo hi mo es)]) ∧ Old w w'

def ClampC10 : Prop := ∀ (lo hi mo x : Int) (a : Option Addr) (n cap : Nat) (es : List Int) (w : World), B64 x → Fit w lo hi mo a n es → Calls Try.prog 22 #[pv lo hi mo a n cap, .int .i64 x] w fun e w' => e = .returned (.tuple #[.int .i64 (clampS (soundZ lo hi mo es) lo hi x), .int .i64 (soundZ lo hi mo es)]) ∧ Old w w'



end Go.Proofs.Ythaaajepolahfaa
