/-
  NARROWER THAN 'FOR EVERY INPUT', by the rows' own cells (each row's printed sentence says how): MaskPairs: laid · MaskHides: laid · MaskLeft: laid · MaskGoes: laid · MaskBegins: laid.
  DERIVED. THE GIVEN ROWS OF THIS SEAT. 5 by the template 'for every input the law returns true; each argument reads behind the call as it read before'; 0 by the template 'total and deterministic' (their statements: YtjbpnhibgafdmaaDoorTotals.lean).
  GIVEN WITH THE SEED: the statements are not yours to turn. If you find one false, say at which input.
  Laid BY PROGRAM, IN A SANDBOX (cutbox-rows.mjs): the forced cells as the released guide's own fill.sh prints them over the translation 901d64c291fce72a… (all of the seat's roots in one cut). By AI agents, Wed Nov 11 2026. No macro, syntax, notation, axiom, sorry.
-/
import Derived.Test.YtjbpnhibgafdmaaDoorChecked
import GoSem.Claim
import GoSem.ClaimJoined
import GoSem.ClaimMapViews
import Derived.JoinedTies
import Derived.KernelRfl
namespace Go.Proofs.YtjbpnhibgafdmaaDoor
/- THE CELL 'sum', in the pinned program and in every row, IS THE sha256 OF THE DUMP (.gsa) THAT YtjbpnhibgafdmaaDoorProg.lean LOADS. Nothing in Lean hashes anything: it is a label: what it is worth is what the hold of that sum in a sandbox is worth. -/
noncomputable def Tryd.pinned : Pinned := { name := "ytjbpnhibgafdmaadoor", sum := "901d64c291fce72a90f8cfb2e89485e6b634ec8693c44e1028ec39c0a3681430", checked := Tryd.checked }
namespace Rows
def none {H : Type} : Left H := { results := [], args := [] }

/- WHAT THE LISTED PACKAGE-LEVEL VARIABLES READ AS WHEN THE CALL BEGINS. Each datum BY PROGRAM (the guide's laid-datum.mjs) off the statement by which the dump's own 'gosem.cut.vars' lays the variable. In a bare row this is a premise. The card (YtjbpnhibgafdmaaDoorCards.lean) ties it to the program's text. -/
def laid_offertory_cipher_quarters {H : Type} : DataW H := .agg [.agg [.lit (.int .i64 0), .lit (.int .i64 4), .lit (.int .i64 8), .lit (.int .i64 12)], .agg [.lit (.int .i64 1), .lit (.int .i64 5), .lit (.int .i64 9), .lit (.int .i64 13)], .agg [.lit (.int .i64 2), .lit (.int .i64 6), .lit (.int .i64 10), .lit (.int .i64 14)], .agg [.lit (.int .i64 3), .lit (.int .i64 7), .lit (.int .i64 11), .lit (.int .i64 15)], .agg [.lit (.int .i64 0), .lit (.int .i64 5), .lit (.int .i64 10), .lit (.int .i64 15)], .agg [.lit (.int .i64 1), .lit (.int .i64 6), .lit (.int .i64 11), .lit (.int .i64 12)], .agg [.lit (.int .i64 2), .lit (.int .i64 7), .lit (.int .i64 8), .lit (.int .i64 13)], .agg [.lit (.int .i64 3), .lit (.int .i64 4), .lit (.int .i64 9), .lit (.int .i64 14)]]

/-- 'offertorylaw17.MaskPairs': WHATEVER THE INPUT: true; the input reads as it did. -/
def maskPairsSpec : ChangeSpec := { name := "maskPairs", fn := fun _ => fun
  | [d1, d2, d3, d4] => { results := [.lit (.bool true)], args := [d1, d2, d3, d4] }
  | _ => none }
def maskPairsRow : OpenClaim := { program := "ytjbpnhibgafdmaadoor", sum := "901d64c291fce72a90f8cfb2e89485e6b634ec8693c44e1028ec39c0a3681430", func := "offertory/offertorylaw17.MaskPairs", spec := "maskPairs", unfollowed := true, recurses := true, named := ["offertory/cipher.quarters"], apart := false, laid := [("offertory/cipher.quarters", laid_offertory_cipher_quarters)] }
def MaskPairsSaid : Prop := maskPairsRow.holds Tryd.pinned (OpenSpec.ofChange maskPairsSpec)

/-- ITS FALSE NEIGHBOUR: 'it returns false'. Refute it at one input. -/
def maskPairsWrong : ChangeSpec := { name := "maskPairs", fn := fun _ => fun
  | [d1, d2, d3, d4] => { results := [.lit (.bool false)], args := [d1, d2, d3, d4] }
  | _ => none }
def MaskPairsWrongFalsely : Prop := maskPairsRow.holds Tryd.pinned (OpenSpec.ofChange maskPairsWrong)

/-- 'offertorylaw17.MaskHides': WHATEVER THE INPUT: true; the input reads as it did. -/
def maskHidesSpec : ChangeSpec := { name := "maskHides", fn := fun _ => fun
  | [d1, d2, d3, d4, d5] => { results := [.lit (.bool true)], args := [d1, d2, d3, d4, d5] }
  | _ => none }
def maskHidesRow : OpenClaim := { program := "ytjbpnhibgafdmaadoor", sum := "901d64c291fce72a90f8cfb2e89485e6b634ec8693c44e1028ec39c0a3681430", func := "offertory/offertorylaw17.MaskHides", spec := "maskHides", unfollowed := true, recurses := true, named := ["offertory/cipher.quarters"], apart := false, laid := [("offertory/cipher.quarters", laid_offertory_cipher_quarters)] }
def MaskHidesSaid : Prop := maskHidesRow.holds Tryd.pinned (OpenSpec.ofChange maskHidesSpec)

/-- ITS FALSE NEIGHBOUR: 'it returns false'. Refute it at one input. -/
def maskHidesWrong : ChangeSpec := { name := "maskHides", fn := fun _ => fun
  | [d1, d2, d3, d4, d5] => { results := [.lit (.bool false)], args := [d1, d2, d3, d4, d5] }
  | _ => none }
def MaskHidesWrongFalsely : Prop := maskHidesRow.holds Tryd.pinned (OpenSpec.ofChange maskHidesWrong)

/-- 'offertorylaw17.MaskLeft': WHATEVER THE INPUT: true; the input reads as it did. -/
def maskLeftSpec : ChangeSpec := { name := "maskLeft", fn := fun _ => fun
  | [d1, d2, d3, d4] => { results := [.lit (.bool true)], args := [d1, d2, d3, d4] }
  | _ => none }
def maskLeftRow : OpenClaim := { program := "ytjbpnhibgafdmaadoor", sum := "901d64c291fce72a90f8cfb2e89485e6b634ec8693c44e1028ec39c0a3681430", func := "offertory/offertorylaw17.MaskLeft", spec := "maskLeft", unfollowed := true, recurses := true, named := ["offertory/cipher.quarters"], apart := false, laid := [("offertory/cipher.quarters", laid_offertory_cipher_quarters)] }
def MaskLeftSaid : Prop := maskLeftRow.holds Tryd.pinned (OpenSpec.ofChange maskLeftSpec)

/-- ITS FALSE NEIGHBOUR: 'it returns false'. Refute it at one input. -/
def maskLeftWrong : ChangeSpec := { name := "maskLeft", fn := fun _ => fun
  | [d1, d2, d3, d4] => { results := [.lit (.bool false)], args := [d1, d2, d3, d4] }
  | _ => none }
def MaskLeftWrongFalsely : Prop := maskLeftRow.holds Tryd.pinned (OpenSpec.ofChange maskLeftWrong)

/-- 'offertorylaw17.MaskGoes': WHATEVER THE INPUT: true; the input reads as it did. -/
def maskGoesSpec : ChangeSpec := { name := "maskGoes", fn := fun _ => fun
  | [d1, d2, d3] => { results := [.lit (.bool true)], args := [d1, d2, d3] }
  | _ => none }
def maskGoesRow : OpenClaim := { program := "ytjbpnhibgafdmaadoor", sum := "901d64c291fce72a90f8cfb2e89485e6b634ec8693c44e1028ec39c0a3681430", func := "offertory/offertorylaw17.MaskGoes", spec := "maskGoes", unfollowed := true, recurses := true, named := ["offertory/cipher.quarters"], apart := false, laid := [("offertory/cipher.quarters", laid_offertory_cipher_quarters)] }
def MaskGoesSaid : Prop := maskGoesRow.holds Tryd.pinned (OpenSpec.ofChange maskGoesSpec)

/-- ITS FALSE NEIGHBOUR: 'it returns false'. Refute it at one input. -/
def maskGoesWrong : ChangeSpec := { name := "maskGoes", fn := fun _ => fun
  | [d1, d2, d3] => { results := [.lit (.bool false)], args := [d1, d2, d3] }
  | _ => none }
def MaskGoesWrongFalsely : Prop := maskGoesRow.holds Tryd.pinned (OpenSpec.ofChange maskGoesWrong)

/-- 'offertorylaw17.MaskBegins': WHATEVER THE INPUT: true; the input reads as it did. -/
def maskBeginsSpec : ChangeSpec := { name := "maskBegins", fn := fun _ => fun
  | [d1, d2, d3, d4, d5] => { results := [.lit (.bool true)], args := [d1, d2, d3, d4, d5] }
  | _ => none }
def maskBeginsRow : OpenClaim := { program := "ytjbpnhibgafdmaadoor", sum := "901d64c291fce72a90f8cfb2e89485e6b634ec8693c44e1028ec39c0a3681430", func := "offertory/offertorylaw17.MaskBegins", spec := "maskBegins", unfollowed := true, recurses := true, named := ["offertory/cipher.quarters"], apart := false, laid := [("offertory/cipher.quarters", laid_offertory_cipher_quarters)] }
def MaskBeginsSaid : Prop := maskBeginsRow.holds Tryd.pinned (OpenSpec.ofChange maskBeginsSpec)

/-- ITS FALSE NEIGHBOUR: 'it returns false'. Refute it at one input. -/
def maskBeginsWrong : ChangeSpec := { name := "maskBegins", fn := fun _ => fun
  | [d1, d2, d3, d4, d5] => { results := [.lit (.bool false)], args := [d1, d2, d3, d4, d5] }
  | _ => none }
def MaskBeginsWrongFalsely : Prop := maskBeginsRow.holds Tryd.pinned (OpenSpec.ofChange maskBeginsWrong)

/- THE SECOND FORM. 'bulk': how many values and letters a reading holds, each counted each time it is reached (what is shared counts as often as it is met; a slice's spare places count too). A statement '..UptoSaid' is the law's where the arguments, and the package variables that the reading takes, are together of bulk at most 1048576: NARROWER than '..Said'. Prove '..Said' where nothing that the law and all that it calls make is longer than what came in: it says more and counts as full. Else prove '..UptoSaid'. A law counts once. -/
mutual
def uptoBulk {H : Type} : DataW H → Nat
  | .lit (.string bytes) => bytes.length + 1
  | .lit _ => 1
  | .nil => 1
  | .ptr d => uptoBulk d + 1
  | .slice elems spare => uptoBulkAll elems + uptoBulkAll spare + 1
  | .agg parts => uptoBulkAll parts + 1
  | .iface _ d => uptoBulk d + 1
  | .map entries => uptoBulkEntries entries + 1
  | .held _ => 1
def uptoBulkAll {H : Type} : List (DataW H) → Nat
  | [] => 0
  | d :: r => uptoBulk d + uptoBulkAll r
def uptoBulkEntries {H : Type} : List (Lit × DataW H) → Nat
  | [] => 0
  | x :: r => uptoBulkEntry x + uptoBulkEntries r
def uptoBulkEntry {H : Type} : Lit × DataW H → Nat
  | (.string bytes, d) => bytes.length + uptoBulk d + 1
  | (_, d) => uptoBulk d + 1
 end
def uptoSmall : (H : Type) → List (DataW H) → Bool := fun _ ds => decide (uptoBulkAll ds ≤ 1048576)
def OpenSpec.upto (s : _root_.Go.ChangeSpec) : _root_.Go.OpenSpec := { _root_.Go.OpenSpec.ofChange s with cond := some uptoSmall }

/-- 'offertorylaw17.MaskPairs', WHERE WHAT IT READS IS OF BULK AT MOST 1048576: true; the input reads as it did. -/
def maskPairsUptoRow : OpenClaim := { program := "ytjbpnhibgafdmaadoor", sum := "901d64c291fce72a90f8cfb2e89485e6b634ec8693c44e1028ec39c0a3681430", func := "offertory/offertorylaw17.MaskPairs", spec := "maskPairs", unfollowed := true, recurses := true, named := ["offertory/cipher.quarters"], apart := false, laid := [("offertory/cipher.quarters", laid_offertory_cipher_quarters)], narrowed := true }
def MaskPairsUptoSaid : Prop := maskPairsUptoRow.holds Tryd.pinned (OpenSpec.upto maskPairsSpec)

/-- 'offertorylaw17.MaskHides', WHERE WHAT IT READS IS OF BULK AT MOST 1048576: true; the input reads as it did. -/
def maskHidesUptoRow : OpenClaim := { program := "ytjbpnhibgafdmaadoor", sum := "901d64c291fce72a90f8cfb2e89485e6b634ec8693c44e1028ec39c0a3681430", func := "offertory/offertorylaw17.MaskHides", spec := "maskHides", unfollowed := true, recurses := true, named := ["offertory/cipher.quarters"], apart := false, laid := [("offertory/cipher.quarters", laid_offertory_cipher_quarters)], narrowed := true }
def MaskHidesUptoSaid : Prop := maskHidesUptoRow.holds Tryd.pinned (OpenSpec.upto maskHidesSpec)

/-- 'offertorylaw17.MaskLeft', WHERE WHAT IT READS IS OF BULK AT MOST 1048576: true; the input reads as it did. -/
def maskLeftUptoRow : OpenClaim := { program := "ytjbpnhibgafdmaadoor", sum := "901d64c291fce72a90f8cfb2e89485e6b634ec8693c44e1028ec39c0a3681430", func := "offertory/offertorylaw17.MaskLeft", spec := "maskLeft", unfollowed := true, recurses := true, named := ["offertory/cipher.quarters"], apart := false, laid := [("offertory/cipher.quarters", laid_offertory_cipher_quarters)], narrowed := true }
def MaskLeftUptoSaid : Prop := maskLeftUptoRow.holds Tryd.pinned (OpenSpec.upto maskLeftSpec)

/-- 'offertorylaw17.MaskGoes', WHERE WHAT IT READS IS OF BULK AT MOST 1048576: true; the input reads as it did. -/
def maskGoesUptoRow : OpenClaim := { program := "ytjbpnhibgafdmaadoor", sum := "901d64c291fce72a90f8cfb2e89485e6b634ec8693c44e1028ec39c0a3681430", func := "offertory/offertorylaw17.MaskGoes", spec := "maskGoes", unfollowed := true, recurses := true, named := ["offertory/cipher.quarters"], apart := false, laid := [("offertory/cipher.quarters", laid_offertory_cipher_quarters)], narrowed := true }
def MaskGoesUptoSaid : Prop := maskGoesUptoRow.holds Tryd.pinned (OpenSpec.upto maskGoesSpec)

/-- 'offertorylaw17.MaskBegins', WHERE WHAT IT READS IS OF BULK AT MOST 1048576: true; the input reads as it did. -/
def maskBeginsUptoRow : OpenClaim := { program := "ytjbpnhibgafdmaadoor", sum := "901d64c291fce72a90f8cfb2e89485e6b634ec8693c44e1028ec39c0a3681430", func := "offertory/offertorylaw17.MaskBegins", spec := "maskBegins", unfollowed := true, recurses := true, named := ["offertory/cipher.quarters"], apart := false, laid := [("offertory/cipher.quarters", laid_offertory_cipher_quarters)], narrowed := true }
def MaskBeginsUptoSaid : Prop := maskBeginsUptoRow.holds Tryd.pinned (OpenSpec.upto maskBeginsSpec)

end Rows
end Go.Proofs.YtjbpnhibgafdmaaDoor
