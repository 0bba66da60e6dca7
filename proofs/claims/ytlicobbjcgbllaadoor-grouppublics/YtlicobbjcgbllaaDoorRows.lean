/-
  NARROWER THAN 'FOR EVERY INPUT', by the rows' own cells (each row's printed sentence says how): GroupPublics: laid · GroupAgrees: laid · GroupBoth: laid · GroupOrders: laid · GroupPowers: laid.
  DERIVED. THE GIVEN ROWS OF THIS SEAT. 5 by the template 'for every input the law returns true; each argument reads behind the call as it read before'; 0 by the template 'total and deterministic' (their statements: YtlicobbjcgbllaaDoorTotals.lean).
  GIVEN WITH THE SEED: the statements are not yours to turn. If you find one false, say at which input.
  Laid BY PROGRAM, IN A SANDBOX (cutbox-rows.mjs): the forced cells as the released guide's own fill.sh prints them over the translation 7fa60df9dd07a8dd… (all of the seat's roots in one cut). By AI agents, Wed Nov 11 2026. No macro, syntax, notation, axiom, sorry.
-/
import Derived.Test.YtlicobbjcgbllaaDoorChecked
import GoSem.Claim
import GoSem.ClaimJoined
import GoSem.ClaimMapViews
import Derived.JoinedTies
import Derived.KernelRfl
namespace Go.Proofs.YtlicobbjcgbllaaDoor
/- THE CELL 'sum', in the pinned program and in every row, IS THE sha256 OF THE DUMP (.gsa) THAT YtlicobbjcgbllaaDoorProg.lean LOADS. Nothing in Lean hashes anything: it is a label: what it is worth is what the hold of that sum in a sandbox is worth. -/
noncomputable def Tryd.pinned : Pinned := { name := "ytlicobbjcgbllaadoor", sum := "7fa60df9dd07a8dd29af1092e8b26a7ed900df78c397eaaa28ffe1e09e8633d3", checked := Tryd.checked }
namespace Rows
def none {H : Type} : Left H := { results := [], args := [] }

/- WHAT THE LISTED PACKAGE-LEVEL VARIABLES READ AS WHEN THE CALL BEGINS. Each datum BY PROGRAM (the guide's laid-datum.mjs) off the statement by which the dump's own 'gosem.cut.vars' lays the variable. In a bare row this is a premise. The card (YtlicobbjcgbllaaDoorCards.lean) ties it to the program's text. -/
def laid_offertory_group_factors {H : Type} : DataW H := .agg [.lit (.int .u64 2), .lit (.int .u64 3), .lit (.int .u64 3), .lit (.int .u64 5), .lit (.int .u64 5), .lit (.int .u64 7), .lit (.int .u64 11), .lit (.int .u64 13), .lit (.int .u64 31), .lit (.int .u64 41), .lit (.int .u64 61), .lit (.int .u64 151), .lit (.int .u64 331), .lit (.int .u64 1321)]

/-- 'offertorylaw03.GroupPublics': WHATEVER THE INPUT: true; the input reads as it did. -/
def groupPublicsSpec : ChangeSpec := { name := "groupPublics", fn := fun _ => fun
  | [d] => { results := [.lit (.bool true)], args := [d] }
  | _ => none }
def groupPublicsRow : OpenClaim := { program := "ytlicobbjcgbllaadoor", sum := "7fa60df9dd07a8dd29af1092e8b26a7ed900df78c397eaaa28ffe1e09e8633d3", func := "offertory/offertorylaw03.GroupPublics", spec := "groupPublics", unfollowed := true, recurses := true, named := ["offertory/group.factors"], apart := false, laid := [("offertory/group.factors", laid_offertory_group_factors)] }
def GroupPublicsSaid : Prop := groupPublicsRow.holds Tryd.pinned (OpenSpec.ofChange groupPublicsSpec)

/-- ITS FALSE NEIGHBOUR: 'it returns false'. Refute it at one input. -/
def groupPublicsWrong : ChangeSpec := { name := "groupPublics", fn := fun _ => fun
  | [d] => { results := [.lit (.bool false)], args := [d] }
  | _ => none }
def GroupPublicsWrongFalsely : Prop := groupPublicsRow.holds Tryd.pinned (OpenSpec.ofChange groupPublicsWrong)

/-- 'offertorylaw03.GroupAgrees': WHATEVER THE INPUT: true; the input reads as it did. -/
def groupAgreesSpec : ChangeSpec := { name := "groupAgrees", fn := fun _ => fun
  | [d1, d2] => { results := [.lit (.bool true)], args := [d1, d2] }
  | _ => none }
def groupAgreesRow : OpenClaim := { program := "ytlicobbjcgbllaadoor", sum := "7fa60df9dd07a8dd29af1092e8b26a7ed900df78c397eaaa28ffe1e09e8633d3", func := "offertory/offertorylaw03.GroupAgrees", spec := "groupAgrees", unfollowed := true, recurses := true, named := ["offertory/group.factors"], apart := false, laid := [("offertory/group.factors", laid_offertory_group_factors)] }
def GroupAgreesSaid : Prop := groupAgreesRow.holds Tryd.pinned (OpenSpec.ofChange groupAgreesSpec)

/-- ITS FALSE NEIGHBOUR: 'it returns false'. Refute it at one input. -/
def groupAgreesWrong : ChangeSpec := { name := "groupAgrees", fn := fun _ => fun
  | [d1, d2] => { results := [.lit (.bool false)], args := [d1, d2] }
  | _ => none }
def GroupAgreesWrongFalsely : Prop := groupAgreesRow.holds Tryd.pinned (OpenSpec.ofChange groupAgreesWrong)

/-- 'offertorylaw03.GroupBoth': WHATEVER THE INPUT: true; the input reads as it did. -/
def groupBothSpec : ChangeSpec := { name := "groupBoth", fn := fun _ => fun
  | [d1, d2] => { results := [.lit (.bool true)], args := [d1, d2] }
  | _ => none }
def groupBothRow : OpenClaim := { program := "ytlicobbjcgbllaadoor", sum := "7fa60df9dd07a8dd29af1092e8b26a7ed900df78c397eaaa28ffe1e09e8633d3", func := "offertory/offertorylaw03.GroupBoth", spec := "groupBoth", unfollowed := true, recurses := true, named := ["offertory/group.factors"], apart := false, laid := [("offertory/group.factors", laid_offertory_group_factors)] }
def GroupBothSaid : Prop := groupBothRow.holds Tryd.pinned (OpenSpec.ofChange groupBothSpec)

/-- ITS FALSE NEIGHBOUR: 'it returns false'. Refute it at one input. -/
def groupBothWrong : ChangeSpec := { name := "groupBoth", fn := fun _ => fun
  | [d1, d2] => { results := [.lit (.bool false)], args := [d1, d2] }
  | _ => none }
def GroupBothWrongFalsely : Prop := groupBothRow.holds Tryd.pinned (OpenSpec.ofChange groupBothWrong)

/-- 'offertorylaw03.GroupOrders': WHATEVER THE INPUT: true; the input reads as it did. -/
def groupOrdersSpec : ChangeSpec := { name := "groupOrders", fn := fun _ => fun
  | [d1, d2] => { results := [.lit (.bool true)], args := [d1, d2] }
  | _ => none }
def groupOrdersRow : OpenClaim := { program := "ytlicobbjcgbllaadoor", sum := "7fa60df9dd07a8dd29af1092e8b26a7ed900df78c397eaaa28ffe1e09e8633d3", func := "offertory/offertorylaw03.GroupOrders", spec := "groupOrders", unfollowed := true, recurses := true, named := ["offertory/group.factors"], apart := false, laid := [("offertory/group.factors", laid_offertory_group_factors)] }
def GroupOrdersSaid : Prop := groupOrdersRow.holds Tryd.pinned (OpenSpec.ofChange groupOrdersSpec)

/-- ITS FALSE NEIGHBOUR: 'it returns false'. Refute it at one input. -/
def groupOrdersWrong : ChangeSpec := { name := "groupOrders", fn := fun _ => fun
  | [d1, d2] => { results := [.lit (.bool false)], args := [d1, d2] }
  | _ => none }
def GroupOrdersWrongFalsely : Prop := groupOrdersRow.holds Tryd.pinned (OpenSpec.ofChange groupOrdersWrong)

/-- 'offertorylaw03.GroupPowers': WHATEVER THE INPUT: true; the input reads as it did. -/
def groupPowersSpec : ChangeSpec := { name := "groupPowers", fn := fun _ => fun
  | [d1, d2] => { results := [.lit (.bool true)], args := [d1, d2] }
  | _ => none }
def groupPowersRow : OpenClaim := { program := "ytlicobbjcgbllaadoor", sum := "7fa60df9dd07a8dd29af1092e8b26a7ed900df78c397eaaa28ffe1e09e8633d3", func := "offertory/offertorylaw03.GroupPowers", spec := "groupPowers", unfollowed := true, recurses := true, named := ["offertory/group.factors"], apart := false, laid := [("offertory/group.factors", laid_offertory_group_factors)] }
def GroupPowersSaid : Prop := groupPowersRow.holds Tryd.pinned (OpenSpec.ofChange groupPowersSpec)

/-- ITS FALSE NEIGHBOUR: 'it returns false'. Refute it at one input. -/
def groupPowersWrong : ChangeSpec := { name := "groupPowers", fn := fun _ => fun
  | [d1, d2] => { results := [.lit (.bool false)], args := [d1, d2] }
  | _ => none }
def GroupPowersWrongFalsely : Prop := groupPowersRow.holds Tryd.pinned (OpenSpec.ofChange groupPowersWrong)

/- THE SECOND FORM. 'bulk': how many values and letters a reading holds, each counted each time it is reached (what is shared counts as often as it is met; a slice's spare places count too). A statement '..UptoSaid' is the law's where the arguments, and the package variables that the reading takes, are together of bulk at most 1048576: NARROWER than '..Said'. Prove '..Said' where nothing that the law and all that it calls make is longer than what came in: it says more and counts as full. Else prove '..UptoSaid'. A law counts once. -/
mutual
def uptoBulk {H : Type} : DataW H → Nat
  | .lit (.string bytes) => bytes.length + 1
  | .lit _ => 1
  | .nil => 1
  | .ptr d => uptoBulk d + 1
  | .slice elems spare => uptoBulkAll elems + uptoBulkAll spare + 1
  | .agg parts => uptoBulkAll parts + 1
  | .iface _ d => uptoBulk d + 1
  | .map entries => uptoBulkEntries entries + 1
  | .held _ => 1
def uptoBulkAll {H : Type} : List (DataW H) → Nat
  | [] => 0
  | d :: r => uptoBulk d + uptoBulkAll r
def uptoBulkEntries {H : Type} : List (Lit × DataW H) → Nat
  | [] => 0
  | x :: r => uptoBulkEntry x + uptoBulkEntries r
def uptoBulkEntry {H : Type} : Lit × DataW H → Nat
  | (.string bytes, d) => bytes.length + uptoBulk d + 1
  | (_, d) => uptoBulk d + 1
 end
def uptoSmall : (H : Type) → List (DataW H) → Bool := fun _ ds => decide (uptoBulkAll ds ≤ 1048576)
def OpenSpec.upto (s : _root_.Go.ChangeSpec) : _root_.Go.OpenSpec := { _root_.Go.OpenSpec.ofChange s with cond := some uptoSmall }

/-- 'offertorylaw03.GroupPublics', WHERE WHAT IT READS IS OF BULK AT MOST 1048576: true; the input reads as it did. -/
def groupPublicsUptoRow : OpenClaim := { program := "ytlicobbjcgbllaadoor", sum := "7fa60df9dd07a8dd29af1092e8b26a7ed900df78c397eaaa28ffe1e09e8633d3", func := "offertory/offertorylaw03.GroupPublics", spec := "groupPublics", unfollowed := true, recurses := true, named := ["offertory/group.factors"], apart := false, laid := [("offertory/group.factors", laid_offertory_group_factors)], narrowed := true }
def GroupPublicsUptoSaid : Prop := groupPublicsUptoRow.holds Tryd.pinned (OpenSpec.upto groupPublicsSpec)

/-- 'offertorylaw03.GroupAgrees', WHERE WHAT IT READS IS OF BULK AT MOST 1048576: true; the input reads as it did. -/
def groupAgreesUptoRow : OpenClaim := { program := "ytlicobbjcgbllaadoor", sum := "7fa60df9dd07a8dd29af1092e8b26a7ed900df78c397eaaa28ffe1e09e8633d3", func := "offertory/offertorylaw03.GroupAgrees", spec := "groupAgrees", unfollowed := true, recurses := true, named := ["offertory/group.factors"], apart := false, laid := [("offertory/group.factors", laid_offertory_group_factors)], narrowed := true }
def GroupAgreesUptoSaid : Prop := groupAgreesUptoRow.holds Tryd.pinned (OpenSpec.upto groupAgreesSpec)

/-- 'offertorylaw03.GroupBoth', WHERE WHAT IT READS IS OF BULK AT MOST 1048576: true; the input reads as it did. -/
def groupBothUptoRow : OpenClaim := { program := "ytlicobbjcgbllaadoor", sum := "7fa60df9dd07a8dd29af1092e8b26a7ed900df78c397eaaa28ffe1e09e8633d3", func := "offertory/offertorylaw03.GroupBoth", spec := "groupBoth", unfollowed := true, recurses := true, named := ["offertory/group.factors"], apart := false, laid := [("offertory/group.factors", laid_offertory_group_factors)], narrowed := true }
def GroupBothUptoSaid : Prop := groupBothUptoRow.holds Tryd.pinned (OpenSpec.upto groupBothSpec)

/-- 'offertorylaw03.GroupOrders', WHERE WHAT IT READS IS OF BULK AT MOST 1048576: true; the input reads as it did. -/
def groupOrdersUptoRow : OpenClaim := { program := "ytlicobbjcgbllaadoor", sum := "7fa60df9dd07a8dd29af1092e8b26a7ed900df78c397eaaa28ffe1e09e8633d3", func := "offertory/offertorylaw03.GroupOrders", spec := "groupOrders", unfollowed := true, recurses := true, named := ["offertory/group.factors"], apart := false, laid := [("offertory/group.factors", laid_offertory_group_factors)], narrowed := true }
def GroupOrdersUptoSaid : Prop := groupOrdersUptoRow.holds Tryd.pinned (OpenSpec.upto groupOrdersSpec)

/-- 'offertorylaw03.GroupPowers', WHERE WHAT IT READS IS OF BULK AT MOST 1048576: true; the input reads as it did. -/
def groupPowersUptoRow : OpenClaim := { program := "ytlicobbjcgbllaadoor", sum := "7fa60df9dd07a8dd29af1092e8b26a7ed900df78c397eaaa28ffe1e09e8633d3", func := "offertory/offertorylaw03.GroupPowers", spec := "groupPowers", unfollowed := true, recurses := true, named := ["offertory/group.factors"], apart := false, laid := [("offertory/group.factors", laid_offertory_group_factors)], narrowed := true }
def GroupPowersUptoSaid : Prop := groupPowersUptoRow.holds Tryd.pinned (OpenSpec.upto groupPowersSpec)

end Rows
end Go.Proofs.YtlicobbjcgbllaaDoor
