/-
  DERIVED. GIVEN WITH THE SEED: THE CARDS: each row of YtcnggbmgmegogaaDoorRows.lean that lists a variable, with what it lists TIED to the program's text (the seventh form; the later family's looks); each row that meets fmt, with fmt's text TOLD by the authors' own Lean function (tested against real Go, not proved from fmt's source: count such statements apart). THE CARD IS WHAT COUNTS. Prove the row's statement (the work); the ties are given (YtcnggbmgmegogaaDoorTie.lean); close each card by the builder's one call (the guide's Derived/Test/ToyasCard.lean, 'card_holds'). Laid BY PROGRAM, IN A SANDBOX (cutbox-door.mjs). By AI agents, Wed Nov 11 2026. No macro, syntax, notation, axiom, sorry.
-/
import Derived.Test.YtcnggbmgmegogaaDoorRows
import GoSem.ClaimSeven
namespace Go.Proofs.YtcnggbmgmegogaaDoor
namespace Rows

/-- THE TIED CARD OF 'offertorylaw04.CipherQuarters'. -/
def cipherQuartersCard : Claim7 := { stood := { row := cipherQuartersRow, standIns := [], harness := (true, "3756b2525e942c57d599800beccee231f8e4a939902ec6d8a6beaf374689c5bb"), looks := false }, kinds := [], alts := [], laidByText := true, laidKinds := [.data], laidTests := true, laidLooks := .later }
def CipherQuartersCardSaid : Prop := Claim7.holds Tryd.pinned (.plain (OpenSpec.ofChange cipherQuartersSpec)) cipherQuartersCard

/-- THE TIED CARD OF 'offertorylaw04.CipherBlocks'. -/
def cipherBlocksCard : Claim7 := { stood := { row := cipherBlocksRow, standIns := [], harness := (true, "3756b2525e942c57d599800beccee231f8e4a939902ec6d8a6beaf374689c5bb"), looks := false }, kinds := [], alts := [], laidByText := true, laidKinds := [.data], laidTests := true, laidLooks := .later }
def CipherBlocksCardSaid : Prop := Claim7.holds Tryd.pinned (.plain (OpenSpec.ofChange cipherBlocksSpec)) cipherBlocksCard

/-- THE TIED CARD OF 'offertorylaw04.CipherXors'. -/
def cipherXorsCard : Claim7 := { stood := { row := cipherXorsRow, standIns := [], harness := (true, "3756b2525e942c57d599800beccee231f8e4a939902ec6d8a6beaf374689c5bb"), looks := false }, kinds := [], alts := [], laidByText := true, laidKinds := [.data], laidTests := true, laidLooks := .later }
def CipherXorsCardSaid : Prop := Claim7.holds Tryd.pinned (.plain (OpenSpec.ofChange cipherXorsSpec)) cipherXorsCard

/-- THE TIED CARD OF 'offertorylaw04.CipherBack'. -/
def cipherBackCard : Claim7 := { stood := { row := cipherBackRow, standIns := [], harness := (true, "3756b2525e942c57d599800beccee231f8e4a939902ec6d8a6beaf374689c5bb"), looks := false }, kinds := [], alts := [], laidByText := true, laidKinds := [.data], laidTests := true, laidLooks := .later }
def CipherBackCardSaid : Prop := Claim7.holds Tryd.pinned (.plain (OpenSpec.ofChange cipherBackSpec)) cipherBackCard

/-- THE TIED CARD OF 'offertorylaw04.CipherTurns'. -/
def cipherTurnsCard : Claim7 := { stood := { row := cipherTurnsRow, standIns := [], harness := (true, "3756b2525e942c57d599800beccee231f8e4a939902ec6d8a6beaf374689c5bb"), looks := false }, kinds := [], alts := [], laidByText := true, laidKinds := [.data], laidTests := true, laidLooks := .later }
def CipherTurnsCardSaid : Prop := Claim7.holds Tryd.pinned (.plain (OpenSpec.ofChange cipherTurnsSpec)) cipherTurnsCard

/-- THE SECOND FORM's CARD OF 'offertorylaw04.CipherQuarters'. -/
def cipherQuartersUptoCard : Claim7 := { stood := { row := cipherQuartersUptoRow, standIns := [], harness := (true, "3756b2525e942c57d599800beccee231f8e4a939902ec6d8a6beaf374689c5bb"), looks := false }, kinds := [], alts := [], laidByText := true, laidKinds := [.data], laidTests := true, laidLooks := .later }
def CipherQuartersUptoCardSaid : Prop := Claim7.holds Tryd.pinned (.plain (OpenSpec.upto cipherQuartersSpec)) cipherQuartersUptoCard

/-- THE SECOND FORM's CARD OF 'offertorylaw04.CipherBlocks'. -/
def cipherBlocksUptoCard : Claim7 := { stood := { row := cipherBlocksUptoRow, standIns := [], harness := (true, "3756b2525e942c57d599800beccee231f8e4a939902ec6d8a6beaf374689c5bb"), looks := false }, kinds := [], alts := [], laidByText := true, laidKinds := [.data], laidTests := true, laidLooks := .later }
def CipherBlocksUptoCardSaid : Prop := Claim7.holds Tryd.pinned (.plain (OpenSpec.upto cipherBlocksSpec)) cipherBlocksUptoCard

/-- THE SECOND FORM's CARD OF 'offertorylaw04.CipherXors'. -/
def cipherXorsUptoCard : Claim7 := { stood := { row := cipherXorsUptoRow, standIns := [], harness := (true, "3756b2525e942c57d599800beccee231f8e4a939902ec6d8a6beaf374689c5bb"), looks := false }, kinds := [], alts := [], laidByText := true, laidKinds := [.data], laidTests := true, laidLooks := .later }
def CipherXorsUptoCardSaid : Prop := Claim7.holds Tryd.pinned (.plain (OpenSpec.upto cipherXorsSpec)) cipherXorsUptoCard

/-- THE SECOND FORM's CARD OF 'offertorylaw04.CipherBack'. -/
def cipherBackUptoCard : Claim7 := { stood := { row := cipherBackUptoRow, standIns := [], harness := (true, "3756b2525e942c57d599800beccee231f8e4a939902ec6d8a6beaf374689c5bb"), looks := false }, kinds := [], alts := [], laidByText := true, laidKinds := [.data], laidTests := true, laidLooks := .later }
def CipherBackUptoCardSaid : Prop := Claim7.holds Tryd.pinned (.plain (OpenSpec.upto cipherBackSpec)) cipherBackUptoCard

/-- THE SECOND FORM's CARD OF 'offertorylaw04.CipherTurns'. -/
def cipherTurnsUptoCard : Claim7 := { stood := { row := cipherTurnsUptoRow, standIns := [], harness := (true, "3756b2525e942c57d599800beccee231f8e4a939902ec6d8a6beaf374689c5bb"), looks := false }, kinds := [], alts := [], laidByText := true, laidKinds := [.data], laidTests := true, laidLooks := .later }
def CipherTurnsUptoCardSaid : Prop := Claim7.holds Tryd.pinned (.plain (OpenSpec.upto cipherTurnsSpec)) cipherTurnsUptoCard
end Rows
end Go.Proofs.YtcnggbmgmegogaaDoor
