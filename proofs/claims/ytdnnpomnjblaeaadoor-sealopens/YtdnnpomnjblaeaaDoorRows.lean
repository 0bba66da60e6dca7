/-
  NARROWER THAN 'FOR EVERY INPUT', by the rows' own cells (each row's printed sentence says how): SealLocks: laid · SealOpens: laid · SealBack: laid.
  DERIVED. THE GIVEN ROWS OF THIS SEAT. 3 by the template 'for every input the law returns true; each argument reads behind the call as it read before'; 0 by the template 'total and deterministic' (their statements: YtdnnpomnjblaeaaDoorTotals.lean).
  GIVEN WITH THE SEED: the statements are not yours to turn. If you find one false, say at which input.
  Laid BY PROGRAM, IN A SANDBOX (cutbox-rows.mjs): the forced cells as the released guide's own fill.sh prints them over the translation f41b015305d3816e… (all of the seat's roots in one cut). By AI agents, Wed Nov 11 2026. No macro, syntax, notation, axiom, sorry.
-/
import Derived.Test.YtdnnpomnjblaeaaDoorChecked
import GoSem.Claim
import GoSem.ClaimJoined
import GoSem.ClaimMapViews
import Derived.JoinedTies
import Derived.KernelRfl
namespace Go.Proofs.YtdnnpomnjblaeaaDoor
/- THE CELL 'sum', in the pinned program and in every row, IS THE sha256 OF THE DUMP (.gsa) THAT YtdnnpomnjblaeaaDoorProg.lean LOADS. Nothing in Lean hashes anything: it is a label: what it is worth is what the hold of that sum in a sandbox is worth. -/
noncomputable def Tryd.pinned : Pinned := { name := "ytdnnpomnjblaeaadoor", sum := "f41b015305d3816e8f4db2ad0e7c7f47236cd146d8ea38325a45b00705b4e035", checked := Tryd.checked }
namespace Rows
def none {H : Type} : Left H := { results := [], args := [] }

/- WHAT THE LISTED PACKAGE-LEVEL VARIABLES READ AS WHEN THE CALL BEGINS. Each datum BY PROGRAM (the guide's laid-datum.mjs) off the statement by which the dump's own 'gosem.cut.vars' lays the variable. In a bare row this is a premise. The card (YtdnnpomnjblaeaaDoorCards.lean) ties it to the program's text. -/
def laid_offertory_cipher_quarters {H : Type} : DataW H := .agg [.agg [.lit (.int .i64 0), .lit (.int .i64 4), .lit (.int .i64 8), .lit (.int .i64 12)], .agg [.lit (.int .i64 1), .lit (.int .i64 5), .lit (.int .i64 9), .lit (.int .i64 13)], .agg [.lit (.int .i64 2), .lit (.int .i64 6), .lit (.int .i64 10), .lit (.int .i64 14)], .agg [.lit (.int .i64 3), .lit (.int .i64 7), .lit (.int .i64 11), .lit (.int .i64 15)], .agg [.lit (.int .i64 0), .lit (.int .i64 5), .lit (.int .i64 10), .lit (.int .i64 15)], .agg [.lit (.int .i64 1), .lit (.int .i64 6), .lit (.int .i64 11), .lit (.int .i64 12)], .agg [.lit (.int .i64 2), .lit (.int .i64 7), .lit (.int .i64 8), .lit (.int .i64 13)], .agg [.lit (.int .i64 3), .lit (.int .i64 4), .lit (.int .i64 9), .lit (.int .i64 14)]]

/-- 'offertorylaw16.SealLocks': WHATEVER THE INPUT: true; the input reads as it did. -/
def sealLocksSpec : ChangeSpec := { name := "sealLocks", fn := fun _ => fun
  | [d1, d2, d3, d4, d5] => { results := [.lit (.bool true)], args := [d1, d2, d3, d4, d5] }
  | _ => none }
def sealLocksRow : OpenClaim := { program := "ytdnnpomnjblaeaadoor", sum := "f41b015305d3816e8f4db2ad0e7c7f47236cd146d8ea38325a45b00705b4e035", func := "offertory/offertorylaw16.SealLocks", spec := "sealLocks", unfollowed := true, recurses := true, named := ["offertory/cipher.quarters"], apart := false, laid := [("offertory/cipher.quarters", laid_offertory_cipher_quarters)] }
def SealLocksSaid : Prop := sealLocksRow.holds Tryd.pinned (OpenSpec.ofChange sealLocksSpec)

/-- ITS FALSE NEIGHBOUR: 'it returns false'. Refute it at one input. -/
def sealLocksWrong : ChangeSpec := { name := "sealLocks", fn := fun _ => fun
  | [d1, d2, d3, d4, d5] => { results := [.lit (.bool false)], args := [d1, d2, d3, d4, d5] }
  | _ => none }
def SealLocksWrongFalsely : Prop := sealLocksRow.holds Tryd.pinned (OpenSpec.ofChange sealLocksWrong)

/-- 'offertorylaw16.SealOpens': WHATEVER THE INPUT: true; the input reads as it did. -/
def sealOpensSpec : ChangeSpec := { name := "sealOpens", fn := fun _ => fun
  | [d1, d2, d3, d4, d5] => { results := [.lit (.bool true)], args := [d1, d2, d3, d4, d5] }
  | _ => none }
def sealOpensRow : OpenClaim := { program := "ytdnnpomnjblaeaadoor", sum := "f41b015305d3816e8f4db2ad0e7c7f47236cd146d8ea38325a45b00705b4e035", func := "offertory/offertorylaw16.SealOpens", spec := "sealOpens", unfollowed := true, recurses := true, named := ["offertory/cipher.quarters"], apart := false, laid := [("offertory/cipher.quarters", laid_offertory_cipher_quarters)] }
def SealOpensSaid : Prop := sealOpensRow.holds Tryd.pinned (OpenSpec.ofChange sealOpensSpec)

/-- ITS FALSE NEIGHBOUR: 'it returns false'. Refute it at one input. -/
def sealOpensWrong : ChangeSpec := { name := "sealOpens", fn := fun _ => fun
  | [d1, d2, d3, d4, d5] => { results := [.lit (.bool false)], args := [d1, d2, d3, d4, d5] }
  | _ => none }
def SealOpensWrongFalsely : Prop := sealOpensRow.holds Tryd.pinned (OpenSpec.ofChange sealOpensWrong)

/-- 'offertorylaw16.SealBack': WHATEVER THE INPUT: true; the input reads as it did. -/
def sealBackSpec : ChangeSpec := { name := "sealBack", fn := fun _ => fun
  | [d1, d2, d3, d4, d5] => { results := [.lit (.bool true)], args := [d1, d2, d3, d4, d5] }
  | _ => none }
def sealBackRow : OpenClaim := { program := "ytdnnpomnjblaeaadoor", sum := "f41b015305d3816e8f4db2ad0e7c7f47236cd146d8ea38325a45b00705b4e035", func := "offertory/offertorylaw16.SealBack", spec := "sealBack", unfollowed := true, recurses := true, named := ["offertory/cipher.quarters"], apart := false, laid := [("offertory/cipher.quarters", laid_offertory_cipher_quarters)] }
def SealBackSaid : Prop := sealBackRow.holds Tryd.pinned (OpenSpec.ofChange sealBackSpec)

/-- ITS FALSE NEIGHBOUR: 'it returns false'. Refute it at one input. -/
def sealBackWrong : ChangeSpec := { name := "sealBack", fn := fun _ => fun
  | [d1, d2, d3, d4, d5] => { results := [.lit (.bool false)], args := [d1, d2, d3, d4, d5] }
  | _ => none }
def SealBackWrongFalsely : Prop := sealBackRow.holds Tryd.pinned (OpenSpec.ofChange sealBackWrong)

/- THE SECOND FORM. 'bulk': how many values and letters a reading holds, each counted each time it is reached (what is shared counts as often as it is met; a slice's spare places count too). A statement '..UptoSaid' is the law's where the arguments, and the package variables that the reading takes, are together of bulk at most 1048576: NARROWER than '..Said'. Prove '..Said' where nothing that the law and all that it calls make is longer than what came in: it says more and counts as full. Else prove '..UptoSaid'. A law counts once. -/
mutual
def uptoBulk {H : Type} : DataW H → Nat
  | .lit (.string bytes) => bytes.length + 1
  | .lit _ => 1
  | .nil => 1
  | .ptr d => uptoBulk d + 1
  | .slice elems spare => uptoBulkAll elems + uptoBulkAll spare + 1
  | .agg parts => uptoBulkAll parts + 1
  | .iface _ d => uptoBulk d + 1
  | .map entries => uptoBulkEntries entries + 1
  | .held _ => 1
def uptoBulkAll {H : Type} : List (DataW H) → Nat
  | [] => 0
  | d :: r => uptoBulk d + uptoBulkAll r
def uptoBulkEntries {H : Type} : List (Lit × DataW H) → Nat
  | [] => 0
  | x :: r => uptoBulkEntry x + uptoBulkEntries r
def uptoBulkEntry {H : Type} : Lit × DataW H → Nat
  | (.string bytes, d) => bytes.length + uptoBulk d + 1
  | (_, d) => uptoBulk d + 1
 end
def uptoSmall : (H : Type) → List (DataW H) → Bool := fun _ ds => decide (uptoBulkAll ds ≤ 1048576)
def OpenSpec.upto (s : _root_.Go.ChangeSpec) : _root_.Go.OpenSpec := { _root_.Go.OpenSpec.ofChange s with cond := some uptoSmall }

/-- 'offertorylaw16.SealLocks', WHERE WHAT IT READS IS OF BULK AT MOST 1048576: true; the input reads as it did. -/
def sealLocksUptoRow : OpenClaim := { program := "ytdnnpomnjblaeaadoor", sum := "f41b015305d3816e8f4db2ad0e7c7f47236cd146d8ea38325a45b00705b4e035", func := "offertory/offertorylaw16.SealLocks", spec := "sealLocks", unfollowed := true, recurses := true, named := ["offertory/cipher.quarters"], apart := false, laid := [("offertory/cipher.quarters", laid_offertory_cipher_quarters)], narrowed := true }
def SealLocksUptoSaid : Prop := sealLocksUptoRow.holds Tryd.pinned (OpenSpec.upto sealLocksSpec)

/-- 'offertorylaw16.SealOpens', WHERE WHAT IT READS IS OF BULK AT MOST 1048576: true; the input reads as it did. -/
def sealOpensUptoRow : OpenClaim := { program := "ytdnnpomnjblaeaadoor", sum := "f41b015305d3816e8f4db2ad0e7c7f47236cd146d8ea38325a45b00705b4e035", func := "offertory/offertorylaw16.SealOpens", spec := "sealOpens", unfollowed := true, recurses := true, named := ["offertory/cipher.quarters"], apart := false, laid := [("offertory/cipher.quarters", laid_offertory_cipher_quarters)], narrowed := true }
def SealOpensUptoSaid : Prop := sealOpensUptoRow.holds Tryd.pinned (OpenSpec.upto sealOpensSpec)

/-- 'offertorylaw16.SealBack', WHERE WHAT IT READS IS OF BULK AT MOST 1048576: true; the input reads as it did. -/
def sealBackUptoRow : OpenClaim := { program := "ytdnnpomnjblaeaadoor", sum := "f41b015305d3816e8f4db2ad0e7c7f47236cd146d8ea38325a45b00705b4e035", func := "offertory/offertorylaw16.SealBack", spec := "sealBack", unfollowed := true, recurses := true, named := ["offertory/cipher.quarters"], apart := false, laid := [("offertory/cipher.quarters", laid_offertory_cipher_quarters)], narrowed := true }
def SealBackUptoSaid : Prop := sealBackUptoRow.holds Tryd.pinned (OpenSpec.upto sealBackSpec)

end Rows
end Go.Proofs.YtdnnpomnjblaeaaDoor
