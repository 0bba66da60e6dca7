/-
  DERIVED. GIVEN WITH THE SEED: THE CARDS: each row of YtlicobbjcgbllaaDoorRows.lean that lists a variable, with what it lists TIED to the program's text (the seventh form; the later family's looks); each row that meets fmt, with fmt's text TOLD by the authors' own Lean function (tested against real Go, not proved from fmt's source: count such statements apart). THE CARD IS WHAT COUNTS. Prove the row's statement (the work); the ties are given (YtlicobbjcgbllaaDoorTie.lean); close each card by the builder's one call (the guide's Derived/Test/ToyasCard.lean, 'card_holds'). Laid BY PROGRAM, IN A SANDBOX (cutbox-door.mjs). By AI agents, Wed Nov 11 2026. No macro, syntax, notation, axiom, sorry.
-/
import Derived.Test.YtlicobbjcgbllaaDoorRows
import GoSem.ClaimSeven
namespace Go.Proofs.YtlicobbjcgbllaaDoor
namespace Rows

/-- THE TIED CARD OF 'offertorylaw03.GroupPublics'. -/
def groupPublicsCard : Claim7 := { stood := { row := groupPublicsRow, standIns := [], harness := (true, "e30ba15344345580b15d81a8b8248b842be31509d9014b533416cb9e9bfd9623"), looks := false }, kinds := [], alts := [], laidByText := true, laidKinds := [.data], laidTests := true, laidLooks := .later }
def GroupPublicsCardSaid : Prop := Claim7.holds Tryd.pinned (.plain (OpenSpec.ofChange groupPublicsSpec)) groupPublicsCard

/-- THE TIED CARD OF 'offertorylaw03.GroupAgrees'. -/
def groupAgreesCard : Claim7 := { stood := { row := groupAgreesRow, standIns := [], harness := (true, "e30ba15344345580b15d81a8b8248b842be31509d9014b533416cb9e9bfd9623"), looks := false }, kinds := [], alts := [], laidByText := true, laidKinds := [.data], laidTests := true, laidLooks := .later }
def GroupAgreesCardSaid : Prop := Claim7.holds Tryd.pinned (.plain (OpenSpec.ofChange groupAgreesSpec)) groupAgreesCard

/-- THE TIED CARD OF 'offertorylaw03.GroupBoth'. -/
def groupBothCard : Claim7 := { stood := { row := groupBothRow, standIns := [], harness := (true, "e30ba15344345580b15d81a8b8248b842be31509d9014b533416cb9e9bfd9623"), looks := false }, kinds := [], alts := [], laidByText := true, laidKinds := [.data], laidTests := true, laidLooks := .later }
def GroupBothCardSaid : Prop := Claim7.holds Tryd.pinned (.plain (OpenSpec.ofChange groupBothSpec)) groupBothCard

/-- THE TIED CARD OF 'offertorylaw03.GroupOrders'. -/
def groupOrdersCard : Claim7 := { stood := { row := groupOrdersRow, standIns := [], harness := (true, "e30ba15344345580b15d81a8b8248b842be31509d9014b533416cb9e9bfd9623"), looks := false }, kinds := [], alts := [], laidByText := true, laidKinds := [.data], laidTests := true, laidLooks := .later }
def GroupOrdersCardSaid : Prop := Claim7.holds Tryd.pinned (.plain (OpenSpec.ofChange groupOrdersSpec)) groupOrdersCard

/-- THE TIED CARD OF 'offertorylaw03.GroupPowers'. -/
def groupPowersCard : Claim7 := { stood := { row := groupPowersRow, standIns := [], harness := (true, "e30ba15344345580b15d81a8b8248b842be31509d9014b533416cb9e9bfd9623"), looks := false }, kinds := [], alts := [], laidByText := true, laidKinds := [.data], laidTests := true, laidLooks := .later }
def GroupPowersCardSaid : Prop := Claim7.holds Tryd.pinned (.plain (OpenSpec.ofChange groupPowersSpec)) groupPowersCard

/-- THE SECOND FORM's CARD OF 'offertorylaw03.GroupPublics'. -/
def groupPublicsUptoCard : Claim7 := { stood := { row := groupPublicsUptoRow, standIns := [], harness := (true, "e30ba15344345580b15d81a8b8248b842be31509d9014b533416cb9e9bfd9623"), looks := false }, kinds := [], alts := [], laidByText := true, laidKinds := [.data], laidTests := true, laidLooks := .later }
def GroupPublicsUptoCardSaid : Prop := Claim7.holds Tryd.pinned (.plain (OpenSpec.upto groupPublicsSpec)) groupPublicsUptoCard

/-- THE SECOND FORM's CARD OF 'offertorylaw03.GroupAgrees'. -/
def groupAgreesUptoCard : Claim7 := { stood := { row := groupAgreesUptoRow, standIns := [], harness := (true, "e30ba15344345580b15d81a8b8248b842be31509d9014b533416cb9e9bfd9623"), looks := false }, kinds := [], alts := [], laidByText := true, laidKinds := [.data], laidTests := true, laidLooks := .later }
def GroupAgreesUptoCardSaid : Prop := Claim7.holds Tryd.pinned (.plain (OpenSpec.upto groupAgreesSpec)) groupAgreesUptoCard

/-- THE SECOND FORM's CARD OF 'offertorylaw03.GroupBoth'. -/
def groupBothUptoCard : Claim7 := { stood := { row := groupBothUptoRow, standIns := [], harness := (true, "e30ba15344345580b15d81a8b8248b842be31509d9014b533416cb9e9bfd9623"), looks := false }, kinds := [], alts := [], laidByText := true, laidKinds := [.data], laidTests := true, laidLooks := .later }
def GroupBothUptoCardSaid : Prop := Claim7.holds Tryd.pinned (.plain (OpenSpec.upto groupBothSpec)) groupBothUptoCard

/-- THE SECOND FORM's CARD OF 'offertorylaw03.GroupOrders'. -/
def groupOrdersUptoCard : Claim7 := { stood := { row := groupOrdersUptoRow, standIns := [], harness := (true, "e30ba15344345580b15d81a8b8248b842be31509d9014b533416cb9e9bfd9623"), looks := false }, kinds := [], alts := [], laidByText := true, laidKinds := [.data], laidTests := true, laidLooks := .later }
def GroupOrdersUptoCardSaid : Prop := Claim7.holds Tryd.pinned (.plain (OpenSpec.upto groupOrdersSpec)) groupOrdersUptoCard

/-- THE SECOND FORM's CARD OF 'offertorylaw03.GroupPowers'. -/
def groupPowersUptoCard : Claim7 := { stood := { row := groupPowersUptoRow, standIns := [], harness := (true, "e30ba15344345580b15d81a8b8248b842be31509d9014b533416cb9e9bfd9623"), looks := false }, kinds := [], alts := [], laidByText := true, laidKinds := [.data], laidTests := true, laidLooks := .later }
def GroupPowersUptoCardSaid : Prop := Claim7.holds Tryd.pinned (.plain (OpenSpec.upto groupPowersSpec)) groupPowersUptoCard
end Rows
end Go.Proofs.YtlicobbjcgbllaaDoor
