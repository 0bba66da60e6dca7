/-
  NARROWER THAN 'FOR EVERY INPUT', by the rows' own cells (each row's printed sentence says how): StreamBytes: laid · StreamMost: laid · StreamVectors: laid · StreamDerives: laid · StreamBegins: laid.
  DERIVED. THE GIVEN ROWS OF THIS SEAT. 5 by the template 'for every input the law returns true; each argument reads behind the call as it read before'; 0 by the template 'total and deterministic' (their statements: YtnmdpjedchaajaaDoorTotals.lean).
  GIVEN WITH THE SEED: the statements are not yours to turn. If you find one false, say at which input.
  Laid BY PROGRAM, IN A SANDBOX (cutbox-rows.mjs): the forced cells as the released guide's own fill.sh prints them over the translation c3a6836a7c12b8bf… (all of the seat's roots in one cut). By AI agents, Wed Nov 11 2026. No macro, syntax, notation, axiom, sorry.
-/
import Derived.Test.YtnmdpjedchaajaaDoorChecked
import GoSem.Claim
import GoSem.ClaimJoined
import GoSem.ClaimMapViews
import Derived.JoinedTies
import Derived.KernelRfl
namespace Go.Proofs.YtnmdpjedchaajaaDoor
/- THE CELL 'sum', in the pinned program and in every row, IS THE sha256 OF THE DUMP (.gsa) THAT YtnmdpjedchaajaaDoorProg.lean LOADS. Nothing in Lean hashes anything: it is a label: what it is worth is what the hold of that sum in a sandbox is worth. -/
noncomputable def Tryd.pinned : Pinned := { name := "ytnmdpjedchaajaadoor", sum := "c3a6836a7c12b8bf16a25c575839131718fa7a9ead4021545c5c7a1eb252abe4", checked := Tryd.checked }
namespace Rows
def none {H : Type} : Left H := { results := [], args := [] }

/- WHAT THE LISTED PACKAGE-LEVEL VARIABLES READ AS WHEN THE CALL BEGINS. Each datum BY PROGRAM (the guide's laid-datum.mjs) off the statement by which the dump's own 'gosem.cut.vars' lays the variable. In a bare row this is a premise. The card (YtnmdpjedchaajaaDoorCards.lean) ties it to the program's text. -/
def laid_offertory_cipher_quarters {H : Type} : DataW H := .agg [.agg [.lit (.int .i64 0), .lit (.int .i64 4), .lit (.int .i64 8), .lit (.int .i64 12)], .agg [.lit (.int .i64 1), .lit (.int .i64 5), .lit (.int .i64 9), .lit (.int .i64 13)], .agg [.lit (.int .i64 2), .lit (.int .i64 6), .lit (.int .i64 10), .lit (.int .i64 14)], .agg [.lit (.int .i64 3), .lit (.int .i64 7), .lit (.int .i64 11), .lit (.int .i64 15)], .agg [.lit (.int .i64 0), .lit (.int .i64 5), .lit (.int .i64 10), .lit (.int .i64 15)], .agg [.lit (.int .i64 1), .lit (.int .i64 6), .lit (.int .i64 11), .lit (.int .i64 12)], .agg [.lit (.int .i64 2), .lit (.int .i64 7), .lit (.int .i64 8), .lit (.int .i64 13)], .agg [.lit (.int .i64 3), .lit (.int .i64 4), .lit (.int .i64 9), .lit (.int .i64 14)]]

/-- 'offertorylaw05.StreamBytes': WHATEVER THE INPUT: true; the input reads as it did. -/
def streamBytesSpec : ChangeSpec := { name := "streamBytes", fn := fun _ => fun
  | [d1, d2, d3] => { results := [.lit (.bool true)], args := [d1, d2, d3] }
  | _ => none }
def streamBytesRow : OpenClaim := { program := "ytnmdpjedchaajaadoor", sum := "c3a6836a7c12b8bf16a25c575839131718fa7a9ead4021545c5c7a1eb252abe4", func := "offertory/offertorylaw05.StreamBytes", spec := "streamBytes", named := ["offertory/cipher.quarters"], apart := false, laid := [("offertory/cipher.quarters", laid_offertory_cipher_quarters)] }
def StreamBytesSaid : Prop := streamBytesRow.holds Tryd.pinned (OpenSpec.ofChange streamBytesSpec)

/-- ITS FALSE NEIGHBOUR: 'it returns false'. Refute it at one input. -/
def streamBytesWrong : ChangeSpec := { name := "streamBytes", fn := fun _ => fun
  | [d1, d2, d3] => { results := [.lit (.bool false)], args := [d1, d2, d3] }
  | _ => none }
def StreamBytesWrongFalsely : Prop := streamBytesRow.holds Tryd.pinned (OpenSpec.ofChange streamBytesWrong)

/-- 'offertorylaw05.StreamMost': WHATEVER THE INPUT: true; the input reads as it did. -/
def streamMostSpec : ChangeSpec := { name := "streamMost", fn := fun _ => fun
  | [d1, d2, d3] => { results := [.lit (.bool true)], args := [d1, d2, d3] }
  | _ => none }
def streamMostRow : OpenClaim := { program := "ytnmdpjedchaajaadoor", sum := "c3a6836a7c12b8bf16a25c575839131718fa7a9ead4021545c5c7a1eb252abe4", func := "offertory/offertorylaw05.StreamMost", spec := "streamMost", named := ["offertory/cipher.quarters"], apart := false, laid := [("offertory/cipher.quarters", laid_offertory_cipher_quarters)] }
def StreamMostSaid : Prop := streamMostRow.holds Tryd.pinned (OpenSpec.ofChange streamMostSpec)

/-- ITS FALSE NEIGHBOUR: 'it returns false'. Refute it at one input. -/
def streamMostWrong : ChangeSpec := { name := "streamMost", fn := fun _ => fun
  | [d1, d2, d3] => { results := [.lit (.bool false)], args := [d1, d2, d3] }
  | _ => none }
def StreamMostWrongFalsely : Prop := streamMostRow.holds Tryd.pinned (OpenSpec.ofChange streamMostWrong)

/-- 'offertorylaw05.StreamVectors': WHATEVER THE INPUT: true; the input reads as it did. -/
def streamVectorsSpec : ChangeSpec := { name := "streamVectors", fn := fun _ => fun
  | [d1, d2, d3] => { results := [.lit (.bool true)], args := [d1, d2, d3] }
  | _ => none }
def streamVectorsRow : OpenClaim := { program := "ytnmdpjedchaajaadoor", sum := "c3a6836a7c12b8bf16a25c575839131718fa7a9ead4021545c5c7a1eb252abe4", func := "offertory/offertorylaw05.StreamVectors", spec := "streamVectors", named := ["offertory/cipher.quarters"], apart := false, laid := [("offertory/cipher.quarters", laid_offertory_cipher_quarters)] }
def StreamVectorsSaid : Prop := streamVectorsRow.holds Tryd.pinned (OpenSpec.ofChange streamVectorsSpec)

/-- ITS FALSE NEIGHBOUR: 'it returns false'. Refute it at one input. -/
def streamVectorsWrong : ChangeSpec := { name := "streamVectors", fn := fun _ => fun
  | [d1, d2, d3] => { results := [.lit (.bool false)], args := [d1, d2, d3] }
  | _ => none }
def StreamVectorsWrongFalsely : Prop := streamVectorsRow.holds Tryd.pinned (OpenSpec.ofChange streamVectorsWrong)

/-- 'offertorylaw05.StreamDerives': WHATEVER THE INPUT: true; the input reads as it did. -/
def streamDerivesSpec : ChangeSpec := { name := "streamDerives", fn := fun _ => fun
  | [d1, d2] => { results := [.lit (.bool true)], args := [d1, d2] }
  | _ => none }
def streamDerivesRow : OpenClaim := { program := "ytnmdpjedchaajaadoor", sum := "c3a6836a7c12b8bf16a25c575839131718fa7a9ead4021545c5c7a1eb252abe4", func := "offertory/offertorylaw05.StreamDerives", spec := "streamDerives", named := ["offertory/cipher.quarters"], apart := false, laid := [("offertory/cipher.quarters", laid_offertory_cipher_quarters)] }
def StreamDerivesSaid : Prop := streamDerivesRow.holds Tryd.pinned (OpenSpec.ofChange streamDerivesSpec)

/-- ITS FALSE NEIGHBOUR: 'it returns false'. Refute it at one input. -/
def streamDerivesWrong : ChangeSpec := { name := "streamDerives", fn := fun _ => fun
  | [d1, d2] => { results := [.lit (.bool false)], args := [d1, d2] }
  | _ => none }
def StreamDerivesWrongFalsely : Prop := streamDerivesRow.holds Tryd.pinned (OpenSpec.ofChange streamDerivesWrong)

/-- 'offertorylaw05.StreamBegins': WHATEVER THE INPUT: true; the input reads as it did. -/
def streamBeginsSpec : ChangeSpec := { name := "streamBegins", fn := fun _ => fun
  | [d1, d2, d3, d4] => { results := [.lit (.bool true)], args := [d1, d2, d3, d4] }
  | _ => none }
def streamBeginsRow : OpenClaim := { program := "ytnmdpjedchaajaadoor", sum := "c3a6836a7c12b8bf16a25c575839131718fa7a9ead4021545c5c7a1eb252abe4", func := "offertory/offertorylaw05.StreamBegins", spec := "streamBegins", named := ["offertory/cipher.quarters"], apart := false, laid := [("offertory/cipher.quarters", laid_offertory_cipher_quarters)] }
def StreamBeginsSaid : Prop := streamBeginsRow.holds Tryd.pinned (OpenSpec.ofChange streamBeginsSpec)

/-- ITS FALSE NEIGHBOUR: 'it returns false'. Refute it at one input. -/
def streamBeginsWrong : ChangeSpec := { name := "streamBegins", fn := fun _ => fun
  | [d1, d2, d3, d4] => { results := [.lit (.bool false)], args := [d1, d2, d3, d4] }
  | _ => none }
def StreamBeginsWrongFalsely : Prop := streamBeginsRow.holds Tryd.pinned (OpenSpec.ofChange streamBeginsWrong)

/- THE SECOND FORM. 'bulk': how many values and letters a reading holds, each counted each time it is reached (what is shared counts as often as it is met; a slice's spare places count too). A statement '..UptoSaid' is the law's where the arguments, and the package variables that the reading takes, are together of bulk at most 1048576: NARROWER than '..Said'. Prove '..Said' where nothing that the law and all that it calls make is longer than what came in: it says more and counts as full. Else prove '..UptoSaid'. A law counts once. -/
mutual
def uptoBulk {H : Type} : DataW H → Nat
  | .lit (.string bytes) => bytes.length + 1
  | .lit _ => 1
  | .nil => 1
  | .ptr d => uptoBulk d + 1
  | .slice elems spare => uptoBulkAll elems + uptoBulkAll spare + 1
  | .agg parts => uptoBulkAll parts + 1
  | .iface _ d => uptoBulk d + 1
  | .map entries => uptoBulkEntries entries + 1
  | .held _ => 1
def uptoBulkAll {H : Type} : List (DataW H) → Nat
  | [] => 0
  | d :: r => uptoBulk d + uptoBulkAll r
def uptoBulkEntries {H : Type} : List (Lit × DataW H) → Nat
  | [] => 0
  | x :: r => uptoBulkEntry x + uptoBulkEntries r
def uptoBulkEntry {H : Type} : Lit × DataW H → Nat
  | (.string bytes, d) => bytes.length + uptoBulk d + 1
  | (_, d) => uptoBulk d + 1
 end
def uptoSmall : (H : Type) → List (DataW H) → Bool := fun _ ds => decide (uptoBulkAll ds ≤ 1048576)
def OpenSpec.upto (s : _root_.Go.ChangeSpec) : _root_.Go.OpenSpec := { _root_.Go.OpenSpec.ofChange s with cond := some uptoSmall }

/-- 'offertorylaw05.StreamBytes', WHERE WHAT IT READS IS OF BULK AT MOST 1048576: true; the input reads as it did. -/
def streamBytesUptoRow : OpenClaim := { program := "ytnmdpjedchaajaadoor", sum := "c3a6836a7c12b8bf16a25c575839131718fa7a9ead4021545c5c7a1eb252abe4", func := "offertory/offertorylaw05.StreamBytes", spec := "streamBytes", named := ["offertory/cipher.quarters"], apart := false, laid := [("offertory/cipher.quarters", laid_offertory_cipher_quarters)], narrowed := true }
def StreamBytesUptoSaid : Prop := streamBytesUptoRow.holds Tryd.pinned (OpenSpec.upto streamBytesSpec)

/-- 'offertorylaw05.StreamMost', WHERE WHAT IT READS IS OF BULK AT MOST 1048576: true; the input reads as it did. -/
def streamMostUptoRow : OpenClaim := { program := "ytnmdpjedchaajaadoor", sum := "c3a6836a7c12b8bf16a25c575839131718fa7a9ead4021545c5c7a1eb252abe4", func := "offertory/offertorylaw05.StreamMost", spec := "streamMost", named := ["offertory/cipher.quarters"], apart := false, laid := [("offertory/cipher.quarters", laid_offertory_cipher_quarters)], narrowed := true }
def StreamMostUptoSaid : Prop := streamMostUptoRow.holds Tryd.pinned (OpenSpec.upto streamMostSpec)

/-- 'offertorylaw05.StreamVectors', WHERE WHAT IT READS IS OF BULK AT MOST 1048576: true; the input reads as it did. -/
def streamVectorsUptoRow : OpenClaim := { program := "ytnmdpjedchaajaadoor", sum := "c3a6836a7c12b8bf16a25c575839131718fa7a9ead4021545c5c7a1eb252abe4", func := "offertory/offertorylaw05.StreamVectors", spec := "streamVectors", named := ["offertory/cipher.quarters"], apart := false, laid := [("offertory/cipher.quarters", laid_offertory_cipher_quarters)], narrowed := true }
def StreamVectorsUptoSaid : Prop := streamVectorsUptoRow.holds Tryd.pinned (OpenSpec.upto streamVectorsSpec)

/-- 'offertorylaw05.StreamDerives', WHERE WHAT IT READS IS OF BULK AT MOST 1048576: true; the input reads as it did. -/
def streamDerivesUptoRow : OpenClaim := { program := "ytnmdpjedchaajaadoor", sum := "c3a6836a7c12b8bf16a25c575839131718fa7a9ead4021545c5c7a1eb252abe4", func := "offertory/offertorylaw05.StreamDerives", spec := "streamDerives", named := ["offertory/cipher.quarters"], apart := false, laid := [("offertory/cipher.quarters", laid_offertory_cipher_quarters)], narrowed := true }
def StreamDerivesUptoSaid : Prop := streamDerivesUptoRow.holds Tryd.pinned (OpenSpec.upto streamDerivesSpec)

/-- 'offertorylaw05.StreamBegins', WHERE WHAT IT READS IS OF BULK AT MOST 1048576: true; the input reads as it did. -/
def streamBeginsUptoRow : OpenClaim := { program := "ytnmdpjedchaajaadoor", sum := "c3a6836a7c12b8bf16a25c575839131718fa7a9ead4021545c5c7a1eb252abe4", func := "offertory/offertorylaw05.StreamBegins", spec := "streamBegins", named := ["offertory/cipher.quarters"], apart := false, laid := [("offertory/cipher.quarters", laid_offertory_cipher_quarters)], narrowed := true }
def StreamBeginsUptoSaid : Prop := streamBeginsUptoRow.holds Tryd.pinned (OpenSpec.upto streamBeginsSpec)

end Rows
end Go.Proofs.YtnmdpjedchaajaaDoor
