/-
  DERIVED. GIVEN WITH THE SEED: THE CARDS: each row of YtnmdpjedchaajaaDoorRows.lean that lists a variable, with what it lists TIED to the program's text (the seventh form; the later family's looks); each row that meets fmt, with fmt's text TOLD by the authors' own Lean function (tested against real Go, not proved from fmt's source: count such statements apart). THE CARD IS WHAT COUNTS. Prove the row's statement (the work); the ties are given (YtnmdpjedchaajaaDoorTie.lean); close each card by the builder's one call (the guide's Derived/Test/ToyasCard.lean, 'card_holds'). Laid BY PROGRAM, IN A SANDBOX (cutbox-door.mjs). By AI agents, Wed Nov 11 2026. No macro, syntax, notation, axiom, sorry.
-/
import Derived.Test.YtnmdpjedchaajaaDoorRows
import GoSem.ClaimSeven
namespace Go.Proofs.YtnmdpjedchaajaaDoor
namespace Rows

/-- THE TIED CARD OF 'offertorylaw05.StreamBytes'. -/
def streamBytesCard : Claim7 := { stood := { row := streamBytesRow, standIns := [], harness := (true, "d96714f26f8a8363599368f852e4cf4439121de4ea9032b99efddc411b5700e3"), looks := false }, kinds := [], alts := [], laidByText := true, laidKinds := [.data], laidTests := true, laidLooks := .later }
def StreamBytesCardSaid : Prop := Claim7.holds Tryd.pinned (.plain (OpenSpec.ofChange streamBytesSpec)) streamBytesCard

/-- THE TIED CARD OF 'offertorylaw05.StreamMost'. -/
def streamMostCard : Claim7 := { stood := { row := streamMostRow, standIns := [], harness := (true, "d96714f26f8a8363599368f852e4cf4439121de4ea9032b99efddc411b5700e3"), looks := false }, kinds := [], alts := [], laidByText := true, laidKinds := [.data], laidTests := true, laidLooks := .later }
def StreamMostCardSaid : Prop := Claim7.holds Tryd.pinned (.plain (OpenSpec.ofChange streamMostSpec)) streamMostCard

/-- THE TIED CARD OF 'offertorylaw05.StreamVectors'. -/
def streamVectorsCard : Claim7 := { stood := { row := streamVectorsRow, standIns := [], harness := (true, "d96714f26f8a8363599368f852e4cf4439121de4ea9032b99efddc411b5700e3"), looks := false }, kinds := [], alts := [], laidByText := true, laidKinds := [.data], laidTests := true, laidLooks := .later }
def StreamVectorsCardSaid : Prop := Claim7.holds Tryd.pinned (.plain (OpenSpec.ofChange streamVectorsSpec)) streamVectorsCard

/-- THE TIED CARD OF 'offertorylaw05.StreamDerives'. -/
def streamDerivesCard : Claim7 := { stood := { row := streamDerivesRow, standIns := [], harness := (true, "d96714f26f8a8363599368f852e4cf4439121de4ea9032b99efddc411b5700e3"), looks := false }, kinds := [], alts := [], laidByText := true, laidKinds := [.data], laidTests := true, laidLooks := .later }
def StreamDerivesCardSaid : Prop := Claim7.holds Tryd.pinned (.plain (OpenSpec.ofChange streamDerivesSpec)) streamDerivesCard

/-- THE TIED CARD OF 'offertorylaw05.StreamBegins'. -/
def streamBeginsCard : Claim7 := { stood := { row := streamBeginsRow, standIns := [], harness := (true, "d96714f26f8a8363599368f852e4cf4439121de4ea9032b99efddc411b5700e3"), looks := false }, kinds := [], alts := [], laidByText := true, laidKinds := [.data], laidTests := true, laidLooks := .later }
def StreamBeginsCardSaid : Prop := Claim7.holds Tryd.pinned (.plain (OpenSpec.ofChange streamBeginsSpec)) streamBeginsCard

/-- THE SECOND FORM's CARD OF 'offertorylaw05.StreamBytes'. -/
def streamBytesUptoCard : Claim7 := { stood := { row := streamBytesUptoRow, standIns := [], harness := (true, "d96714f26f8a8363599368f852e4cf4439121de4ea9032b99efddc411b5700e3"), looks := false }, kinds := [], alts := [], laidByText := true, laidKinds := [.data], laidTests := true, laidLooks := .later }
def StreamBytesUptoCardSaid : Prop := Claim7.holds Tryd.pinned (.plain (OpenSpec.upto streamBytesSpec)) streamBytesUptoCard

/-- THE SECOND FORM's CARD OF 'offertorylaw05.StreamMost'. -/
def streamMostUptoCard : Claim7 := { stood := { row := streamMostUptoRow, standIns := [], harness := (true, "d96714f26f8a8363599368f852e4cf4439121de4ea9032b99efddc411b5700e3"), looks := false }, kinds := [], alts := [], laidByText := true, laidKinds := [.data], laidTests := true, laidLooks := .later }
def StreamMostUptoCardSaid : Prop := Claim7.holds Tryd.pinned (.plain (OpenSpec.upto streamMostSpec)) streamMostUptoCard

/-- THE SECOND FORM's CARD OF 'offertorylaw05.StreamVectors'. -/
def streamVectorsUptoCard : Claim7 := { stood := { row := streamVectorsUptoRow, standIns := [], harness := (true, "d96714f26f8a8363599368f852e4cf4439121de4ea9032b99efddc411b5700e3"), looks := false }, kinds := [], alts := [], laidByText := true, laidKinds := [.data], laidTests := true, laidLooks := .later }
def StreamVectorsUptoCardSaid : Prop := Claim7.holds Tryd.pinned (.plain (OpenSpec.upto streamVectorsSpec)) streamVectorsUptoCard

/-- THE SECOND FORM's CARD OF 'offertorylaw05.StreamDerives'. -/
def streamDerivesUptoCard : Claim7 := { stood := { row := streamDerivesUptoRow, standIns := [], harness := (true, "d96714f26f8a8363599368f852e4cf4439121de4ea9032b99efddc411b5700e3"), looks := false }, kinds := [], alts := [], laidByText := true, laidKinds := [.data], laidTests := true, laidLooks := .later }
def StreamDerivesUptoCardSaid : Prop := Claim7.holds Tryd.pinned (.plain (OpenSpec.upto streamDerivesSpec)) streamDerivesUptoCard

/-- THE SECOND FORM's CARD OF 'offertorylaw05.StreamBegins'. -/
def streamBeginsUptoCard : Claim7 := { stood := { row := streamBeginsUptoRow, standIns := [], harness := (true, "d96714f26f8a8363599368f852e4cf4439121de4ea9032b99efddc411b5700e3"), looks := false }, kinds := [], alts := [], laidByText := true, laidKinds := [.data], laidTests := true, laidLooks := .later }
def StreamBeginsUptoCardSaid : Prop := Claim7.holds Tryd.pinned (.plain (OpenSpec.upto streamBeginsSpec)) streamBeginsUptoCard
end Rows
end Go.Proofs.YtnmdpjedchaajaaDoor
