/-
  NARROWER THAN 'FOR EVERY INPUT', by the rows' own cells (each row's printed sentence says how): CipherQuarters: laid · CipherBlocks: laid · CipherXors: laid · CipherBack: laid · CipherTurns: laid.
  DERIVED. THE GIVEN ROWS OF THIS SEAT. 5 by the template 'for every input the law returns true; each argument reads behind the call as it read before'; 0 by the template 'total and deterministic' (their statements: YtcnggbmgmegogaaDoorTotals.lean).
  GIVEN WITH THE SEED: the statements are not yours to turn. If you find one false, say at which input.
  Laid BY PROGRAM, IN A SANDBOX (cutbox-rows.mjs): the forced cells as the released guide's own fill.sh prints them over the translation 0c1a69dcddf2959d… (all of the seat's roots in one cut). By AI agents, Wed Nov 11 2026. No macro, syntax, notation, axiom, sorry.
-/
import Derived.Test.YtcnggbmgmegogaaDoorChecked
import GoSem.Claim
import GoSem.ClaimJoined
import GoSem.ClaimMapViews
import Derived.JoinedTies
import Derived.KernelRfl
namespace Go.Proofs.YtcnggbmgmegogaaDoor
/- THE CELL 'sum', in the pinned program and in every row, IS THE sha256 OF THE DUMP (.gsa) THAT YtcnggbmgmegogaaDoorProg.lean LOADS. Nothing in Lean hashes anything: it is a label: what it is worth is what the hold of that sum in a sandbox is worth. -/
noncomputable def Tryd.pinned : Pinned := { name := "ytcnggbmgmegogaadoor", sum := "0c1a69dcddf2959dddbb2048dc5f508e758aec8de107abca3b4199af8ca269f2", checked := Tryd.checked }
namespace Rows
def none {H : Type} : Left H := { results := [], args := [] }

/- WHAT THE LISTED PACKAGE-LEVEL VARIABLES READ AS WHEN THE CALL BEGINS. Each datum BY PROGRAM (the guide's laid-datum.mjs) off the statement by which the dump's own 'gosem.cut.vars' lays the variable. In a bare row this is a premise. The card (YtcnggbmgmegogaaDoorCards.lean) ties it to the program's text. -/
def laid_offertory_cipher_quarters {H : Type} : DataW H := .agg [.agg [.lit (.int .i64 0), .lit (.int .i64 4), .lit (.int .i64 8), .lit (.int .i64 12)], .agg [.lit (.int .i64 1), .lit (.int .i64 5), .lit (.int .i64 9), .lit (.int .i64 13)], .agg [.lit (.int .i64 2), .lit (.int .i64 6), .lit (.int .i64 10), .lit (.int .i64 14)], .agg [.lit (.int .i64 3), .lit (.int .i64 7), .lit (.int .i64 11), .lit (.int .i64 15)], .agg [.lit (.int .i64 0), .lit (.int .i64 5), .lit (.int .i64 10), .lit (.int .i64 15)], .agg [.lit (.int .i64 1), .lit (.int .i64 6), .lit (.int .i64 11), .lit (.int .i64 12)], .agg [.lit (.int .i64 2), .lit (.int .i64 7), .lit (.int .i64 8), .lit (.int .i64 13)], .agg [.lit (.int .i64 3), .lit (.int .i64 4), .lit (.int .i64 9), .lit (.int .i64 14)]]

/-- 'offertorylaw04.CipherQuarters': WHATEVER THE INPUT: true; the input reads as it did. -/
def cipherQuartersSpec : ChangeSpec := { name := "cipherQuarters", fn := fun _ => fun
  | [d1, d2, d3, d4] => { results := [.lit (.bool true)], args := [d1, d2, d3, d4] }
  | _ => none }
def cipherQuartersRow : OpenClaim := { program := "ytcnggbmgmegogaadoor", sum := "0c1a69dcddf2959dddbb2048dc5f508e758aec8de107abca3b4199af8ca269f2", func := "offertory/offertorylaw04.CipherQuarters", spec := "cipherQuarters", named := ["offertory/cipher.quarters"], apart := false, laid := [("offertory/cipher.quarters", laid_offertory_cipher_quarters)] }
def CipherQuartersSaid : Prop := cipherQuartersRow.holds Tryd.pinned (OpenSpec.ofChange cipherQuartersSpec)

/-- ITS FALSE NEIGHBOUR: 'it returns false'. Refute it at one input. -/
def cipherQuartersWrong : ChangeSpec := { name := "cipherQuarters", fn := fun _ => fun
  | [d1, d2, d3, d4] => { results := [.lit (.bool false)], args := [d1, d2, d3, d4] }
  | _ => none }
def CipherQuartersWrongFalsely : Prop := cipherQuartersRow.holds Tryd.pinned (OpenSpec.ofChange cipherQuartersWrong)

/-- 'offertorylaw04.CipherBlocks': WHATEVER THE INPUT: true; the input reads as it did. -/
def cipherBlocksSpec : ChangeSpec := { name := "cipherBlocks", fn := fun _ => fun
  | [d1, d2, d3] => { results := [.lit (.bool true)], args := [d1, d2, d3] }
  | _ => none }
def cipherBlocksRow : OpenClaim := { program := "ytcnggbmgmegogaadoor", sum := "0c1a69dcddf2959dddbb2048dc5f508e758aec8de107abca3b4199af8ca269f2", func := "offertory/offertorylaw04.CipherBlocks", spec := "cipherBlocks", named := ["offertory/cipher.quarters"], apart := false, laid := [("offertory/cipher.quarters", laid_offertory_cipher_quarters)] }
def CipherBlocksSaid : Prop := cipherBlocksRow.holds Tryd.pinned (OpenSpec.ofChange cipherBlocksSpec)

/-- ITS FALSE NEIGHBOUR: 'it returns false'. Refute it at one input. -/
def cipherBlocksWrong : ChangeSpec := { name := "cipherBlocks", fn := fun _ => fun
  | [d1, d2, d3] => { results := [.lit (.bool false)], args := [d1, d2, d3] }
  | _ => none }
def CipherBlocksWrongFalsely : Prop := cipherBlocksRow.holds Tryd.pinned (OpenSpec.ofChange cipherBlocksWrong)

/-- 'offertorylaw04.CipherXors': WHATEVER THE INPUT: true; the input reads as it did. -/
def cipherXorsSpec : ChangeSpec := { name := "cipherXors", fn := fun _ => fun
  | [d1, d2, d3, d4] => { results := [.lit (.bool true)], args := [d1, d2, d3, d4] }
  | _ => none }
def cipherXorsRow : OpenClaim := { program := "ytcnggbmgmegogaadoor", sum := "0c1a69dcddf2959dddbb2048dc5f508e758aec8de107abca3b4199af8ca269f2", func := "offertory/offertorylaw04.CipherXors", spec := "cipherXors", named := ["offertory/cipher.quarters"], apart := false, laid := [("offertory/cipher.quarters", laid_offertory_cipher_quarters)] }
def CipherXorsSaid : Prop := cipherXorsRow.holds Tryd.pinned (OpenSpec.ofChange cipherXorsSpec)

/-- ITS FALSE NEIGHBOUR: 'it returns false'. Refute it at one input. -/
def cipherXorsWrong : ChangeSpec := { name := "cipherXors", fn := fun _ => fun
  | [d1, d2, d3, d4] => { results := [.lit (.bool false)], args := [d1, d2, d3, d4] }
  | _ => none }
def CipherXorsWrongFalsely : Prop := cipherXorsRow.holds Tryd.pinned (OpenSpec.ofChange cipherXorsWrong)

/-- 'offertorylaw04.CipherBack': WHATEVER THE INPUT: true; the input reads as it did. -/
def cipherBackSpec : ChangeSpec := { name := "cipherBack", fn := fun _ => fun
  | [d1, d2, d3, d4] => { results := [.lit (.bool true)], args := [d1, d2, d3, d4] }
  | _ => none }
def cipherBackRow : OpenClaim := { program := "ytcnggbmgmegogaadoor", sum := "0c1a69dcddf2959dddbb2048dc5f508e758aec8de107abca3b4199af8ca269f2", func := "offertory/offertorylaw04.CipherBack", spec := "cipherBack", named := ["offertory/cipher.quarters"], apart := false, laid := [("offertory/cipher.quarters", laid_offertory_cipher_quarters)] }
def CipherBackSaid : Prop := cipherBackRow.holds Tryd.pinned (OpenSpec.ofChange cipherBackSpec)

/-- ITS FALSE NEIGHBOUR: 'it returns false'. Refute it at one input. -/
def cipherBackWrong : ChangeSpec := { name := "cipherBack", fn := fun _ => fun
  | [d1, d2, d3, d4] => { results := [.lit (.bool false)], args := [d1, d2, d3, d4] }
  | _ => none }
def CipherBackWrongFalsely : Prop := cipherBackRow.holds Tryd.pinned (OpenSpec.ofChange cipherBackWrong)

/-- 'offertorylaw04.CipherTurns': WHATEVER THE INPUT: true; the input reads as it did. -/
def cipherTurnsSpec : ChangeSpec := { name := "cipherTurns", fn := fun _ => fun
  | [d1, d2, d3, d4] => { results := [.lit (.bool true)], args := [d1, d2, d3, d4] }
  | _ => none }
def cipherTurnsRow : OpenClaim := { program := "ytcnggbmgmegogaadoor", sum := "0c1a69dcddf2959dddbb2048dc5f508e758aec8de107abca3b4199af8ca269f2", func := "offertory/offertorylaw04.CipherTurns", spec := "cipherTurns", named := ["offertory/cipher.quarters"], apart := false, laid := [("offertory/cipher.quarters", laid_offertory_cipher_quarters)] }
def CipherTurnsSaid : Prop := cipherTurnsRow.holds Tryd.pinned (OpenSpec.ofChange cipherTurnsSpec)

/-- ITS FALSE NEIGHBOUR: 'it returns false'. Refute it at one input. -/
def cipherTurnsWrong : ChangeSpec := { name := "cipherTurns", fn := fun _ => fun
  | [d1, d2, d3, d4] => { results := [.lit (.bool false)], args := [d1, d2, d3, d4] }
  | _ => none }
def CipherTurnsWrongFalsely : Prop := cipherTurnsRow.holds Tryd.pinned (OpenSpec.ofChange cipherTurnsWrong)

/- THE SECOND FORM. 'bulk': how many values and letters a reading holds, each counted each time it is reached (what is shared counts as often as it is met; a slice's spare places count too). A statement '..UptoSaid' is the law's where the arguments, and the package variables that the reading takes, are together of bulk at most 1048576: NARROWER than '..Said'. Prove '..Said' where nothing that the law and all that it calls make is longer than what came in: it says more and counts as full. Else prove '..UptoSaid'. A law counts once. -/
mutual
def uptoBulk {H : Type} : DataW H → Nat
  | .lit (.string bytes) => bytes.length + 1
  | .lit _ => 1
  | .nil => 1
  | .ptr d => uptoBulk d + 1
  | .slice elems spare => uptoBulkAll elems + uptoBulkAll spare + 1
  | .agg parts => uptoBulkAll parts + 1
  | .iface _ d => uptoBulk d + 1
  | .map entries => uptoBulkEntries entries + 1
  | .held _ => 1
def uptoBulkAll {H : Type} : List (DataW H) → Nat
  | [] => 0
  | d :: r => uptoBulk d + uptoBulkAll r
def uptoBulkEntries {H : Type} : List (Lit × DataW H) → Nat
  | [] => 0
  | x :: r => uptoBulkEntry x + uptoBulkEntries r
def uptoBulkEntry {H : Type} : Lit × DataW H → Nat
  | (.string bytes, d) => bytes.length + uptoBulk d + 1
  | (_, d) => uptoBulk d + 1
 end
def uptoSmall : (H : Type) → List (DataW H) → Bool := fun _ ds => decide (uptoBulkAll ds ≤ 1048576)
def OpenSpec.upto (s : _root_.Go.ChangeSpec) : _root_.Go.OpenSpec := { _root_.Go.OpenSpec.ofChange s with cond := some uptoSmall }

/-- 'offertorylaw04.CipherQuarters', WHERE WHAT IT READS IS OF BULK AT MOST 1048576: true; the input reads as it did. -/
def cipherQuartersUptoRow : OpenClaim := { program := "ytcnggbmgmegogaadoor", sum := "0c1a69dcddf2959dddbb2048dc5f508e758aec8de107abca3b4199af8ca269f2", func := "offertory/offertorylaw04.CipherQuarters", spec := "cipherQuarters", named := ["offertory/cipher.quarters"], apart := false, laid := [("offertory/cipher.quarters", laid_offertory_cipher_quarters)], narrowed := true }
def CipherQuartersUptoSaid : Prop := cipherQuartersUptoRow.holds Tryd.pinned (OpenSpec.upto cipherQuartersSpec)

/-- 'offertorylaw04.CipherBlocks', WHERE WHAT IT READS IS OF BULK AT MOST 1048576: true; the input reads as it did. -/
def cipherBlocksUptoRow : OpenClaim := { program := "ytcnggbmgmegogaadoor", sum := "0c1a69dcddf2959dddbb2048dc5f508e758aec8de107abca3b4199af8ca269f2", func := "offertory/offertorylaw04.CipherBlocks", spec := "cipherBlocks", named := ["offertory/cipher.quarters"], apart := false, laid := [("offertory/cipher.quarters", laid_offertory_cipher_quarters)], narrowed := true }
def CipherBlocksUptoSaid : Prop := cipherBlocksUptoRow.holds Tryd.pinned (OpenSpec.upto cipherBlocksSpec)

/-- 'offertorylaw04.CipherXors', WHERE WHAT IT READS IS OF BULK AT MOST 1048576: true; the input reads as it did. -/
def cipherXorsUptoRow : OpenClaim := { program := "ytcnggbmgmegogaadoor", sum := "0c1a69dcddf2959dddbb2048dc5f508e758aec8de107abca3b4199af8ca269f2", func := "offertory/offertorylaw04.CipherXors", spec := "cipherXors", named := ["offertory/cipher.quarters"], apart := false, laid := [("offertory/cipher.quarters", laid_offertory_cipher_quarters)], narrowed := true }
def CipherXorsUptoSaid : Prop := cipherXorsUptoRow.holds Tryd.pinned (OpenSpec.upto cipherXorsSpec)

/-- 'offertorylaw04.CipherBack', WHERE WHAT IT READS IS OF BULK AT MOST 1048576: true; the input reads as it did. -/
def cipherBackUptoRow : OpenClaim := { program := "ytcnggbmgmegogaadoor", sum := "0c1a69dcddf2959dddbb2048dc5f508e758aec8de107abca3b4199af8ca269f2", func := "offertory/offertorylaw04.CipherBack", spec := "cipherBack", named := ["offertory/cipher.quarters"], apart := false, laid := [("offertory/cipher.quarters", laid_offertory_cipher_quarters)], narrowed := true }
def CipherBackUptoSaid : Prop := cipherBackUptoRow.holds Tryd.pinned (OpenSpec.upto cipherBackSpec)

/-- 'offertorylaw04.CipherTurns', WHERE WHAT IT READS IS OF BULK AT MOST 1048576: true; the input reads as it did. -/
def cipherTurnsUptoRow : OpenClaim := { program := "ytcnggbmgmegogaadoor", sum := "0c1a69dcddf2959dddbb2048dc5f508e758aec8de107abca3b4199af8ca269f2", func := "offertory/offertorylaw04.CipherTurns", spec := "cipherTurns", named := ["offertory/cipher.quarters"], apart := false, laid := [("offertory/cipher.quarters", laid_offertory_cipher_quarters)], narrowed := true }
def CipherTurnsUptoSaid : Prop := cipherTurnsUptoRow.holds Tryd.pinned (OpenSpec.upto cipherTurnsSpec)

end Rows
end Go.Proofs.YtcnggbmgmegogaaDoor
