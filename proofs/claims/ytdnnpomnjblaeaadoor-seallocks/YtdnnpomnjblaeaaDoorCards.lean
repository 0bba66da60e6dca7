/-
  DERIVED. GIVEN WITH THE SEED: THE CARDS: each row of YtdnnpomnjblaeaaDoorRows.lean that lists a variable, with what it lists TIED to the program's text (the seventh form; the later family's looks); each row that meets fmt, with fmt's text TOLD by the authors' own Lean function (tested against real Go, not proved from fmt's source: count such statements apart). THE CARD IS WHAT COUNTS. Prove the row's statement (the work); the ties are given (YtdnnpomnjblaeaaDoorTie.lean); close each card by the builder's one call (the guide's Derived/Test/ToyasCard.lean, 'card_holds'). Laid BY PROGRAM, IN A SANDBOX (cutbox-door.mjs). By AI agents, Wed Nov 11 2026. No macro, syntax, notation, axiom, sorry.
-/
import Derived.Test.YtdnnpomnjblaeaaDoorRows
import GoSem.ClaimSeven
namespace Go.Proofs.YtdnnpomnjblaeaaDoor
namespace Rows

/-- THE TIED CARD OF 'offertorylaw16.SealLocks'. -/
def sealLocksCard : Claim7 := { stood := { row := sealLocksRow, standIns := [], harness := (true, "c1fbb4d303e56cbcaac2e22c6adbd46828c2481a7410d4f7f72a887840972b1e"), looks := false }, kinds := [], alts := [], laidByText := true, laidKinds := [.data], laidTests := true, laidLooks := .later }
def SealLocksCardSaid : Prop := Claim7.holds Tryd.pinned (.plain (OpenSpec.ofChange sealLocksSpec)) sealLocksCard

/-- THE TIED CARD OF 'offertorylaw16.SealOpens'. -/
def sealOpensCard : Claim7 := { stood := { row := sealOpensRow, standIns := [], harness := (true, "c1fbb4d303e56cbcaac2e22c6adbd46828c2481a7410d4f7f72a887840972b1e"), looks := false }, kinds := [], alts := [], laidByText := true, laidKinds := [.data], laidTests := true, laidLooks := .later }
def SealOpensCardSaid : Prop := Claim7.holds Tryd.pinned (.plain (OpenSpec.ofChange sealOpensSpec)) sealOpensCard

/-- THE TIED CARD OF 'offertorylaw16.SealBack'. -/
def sealBackCard : Claim7 := { stood := { row := sealBackRow, standIns := [], harness := (true, "c1fbb4d303e56cbcaac2e22c6adbd46828c2481a7410d4f7f72a887840972b1e"), looks := false }, kinds := [], alts := [], laidByText := true, laidKinds := [.data], laidTests := true, laidLooks := .later }
def SealBackCardSaid : Prop := Claim7.holds Tryd.pinned (.plain (OpenSpec.ofChange sealBackSpec)) sealBackCard

/-- THE SECOND FORM's CARD OF 'offertorylaw16.SealLocks'. -/
def sealLocksUptoCard : Claim7 := { stood := { row := sealLocksUptoRow, standIns := [], harness := (true, "c1fbb4d303e56cbcaac2e22c6adbd46828c2481a7410d4f7f72a887840972b1e"), looks := false }, kinds := [], alts := [], laidByText := true, laidKinds := [.data], laidTests := true, laidLooks := .later }
def SealLocksUptoCardSaid : Prop := Claim7.holds Tryd.pinned (.plain (OpenSpec.upto sealLocksSpec)) sealLocksUptoCard

/-- THE SECOND FORM's CARD OF 'offertorylaw16.SealOpens'. -/
def sealOpensUptoCard : Claim7 := { stood := { row := sealOpensUptoRow, standIns := [], harness := (true, "c1fbb4d303e56cbcaac2e22c6adbd46828c2481a7410d4f7f72a887840972b1e"), looks := false }, kinds := [], alts := [], laidByText := true, laidKinds := [.data], laidTests := true, laidLooks := .later }
def SealOpensUptoCardSaid : Prop := Claim7.holds Tryd.pinned (.plain (OpenSpec.upto sealOpensSpec)) sealOpensUptoCard

/-- THE SECOND FORM's CARD OF 'offertorylaw16.SealBack'. -/
def sealBackUptoCard : Claim7 := { stood := { row := sealBackUptoRow, standIns := [], harness := (true, "c1fbb4d303e56cbcaac2e22c6adbd46828c2481a7410d4f7f72a887840972b1e"), looks := false }, kinds := [], alts := [], laidByText := true, laidKinds := [.data], laidTests := true, laidLooks := .later }
def SealBackUptoCardSaid : Prop := Claim7.holds Tryd.pinned (.plain (OpenSpec.upto sealBackSpec)) sealBackUptoCard
end Rows
end Go.Proofs.YtdnnpomnjblaeaaDoor
