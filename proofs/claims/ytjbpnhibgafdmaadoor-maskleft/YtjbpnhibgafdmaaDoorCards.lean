/-
  DERIVED. GIVEN WITH THE SEED: THE CARDS: each row of YtjbpnhibgafdmaaDoorRows.lean that lists a variable, with what it lists TIED to the program's text (the seventh form; the later family's looks); each row that meets fmt, with fmt's text TOLD by the authors' own Lean function (tested against real Go, not proved from fmt's source: count such statements apart). THE CARD IS WHAT COUNTS. Prove the row's statement (the work); the ties are given (YtjbpnhibgafdmaaDoorTie.lean); close each card by the builder's one call (the guide's Derived/Test/ToyasCard.lean, 'card_holds'). Laid BY PROGRAM, IN A SANDBOX (cutbox-door.mjs). By AI agents, Wed Nov 11 2026. No macro, syntax, notation, axiom, sorry.
-/
import Derived.Test.YtjbpnhibgafdmaaDoorRows
import GoSem.ClaimSeven
namespace Go.Proofs.YtjbpnhibgafdmaaDoor
namespace Rows

/-- THE TIED CARD OF 'offertorylaw17.MaskPairs'. -/
def maskPairsCard : Claim7 := { stood := { row := maskPairsRow, standIns := [], harness := (true, "26b878b63ef63cc43124637353db77af1466bbb641a8d05c6f0965253ec98f87"), looks := false }, kinds := [], alts := [], laidByText := true, laidKinds := [.data], laidTests := true, laidLooks := .later }
def MaskPairsCardSaid : Prop := Claim7.holds Tryd.pinned (.plain (OpenSpec.ofChange maskPairsSpec)) maskPairsCard

/-- THE TIED CARD OF 'offertorylaw17.MaskHides'. -/
def maskHidesCard : Claim7 := { stood := { row := maskHidesRow, standIns := [], harness := (true, "26b878b63ef63cc43124637353db77af1466bbb641a8d05c6f0965253ec98f87"), looks := false }, kinds := [], alts := [], laidByText := true, laidKinds := [.data], laidTests := true, laidLooks := .later }
def MaskHidesCardSaid : Prop := Claim7.holds Tryd.pinned (.plain (OpenSpec.ofChange maskHidesSpec)) maskHidesCard

/-- THE TIED CARD OF 'offertorylaw17.MaskLeft'. -/
def maskLeftCard : Claim7 := { stood := { row := maskLeftRow, standIns := [], harness := (true, "26b878b63ef63cc43124637353db77af1466bbb641a8d05c6f0965253ec98f87"), looks := false }, kinds := [], alts := [], laidByText := true, laidKinds := [.data], laidTests := true, laidLooks := .later }
def MaskLeftCardSaid : Prop := Claim7.holds Tryd.pinned (.plain (OpenSpec.ofChange maskLeftSpec)) maskLeftCard

/-- THE TIED CARD OF 'offertorylaw17.MaskGoes'. -/
def maskGoesCard : Claim7 := { stood := { row := maskGoesRow, standIns := [], harness := (true, "26b878b63ef63cc43124637353db77af1466bbb641a8d05c6f0965253ec98f87"), looks := false }, kinds := [], alts := [], laidByText := true, laidKinds := [.data], laidTests := true, laidLooks := .later }
def MaskGoesCardSaid : Prop := Claim7.holds Tryd.pinned (.plain (OpenSpec.ofChange maskGoesSpec)) maskGoesCard

/-- THE TIED CARD OF 'offertorylaw17.MaskBegins'. -/
def maskBeginsCard : Claim7 := { stood := { row := maskBeginsRow, standIns := [], harness := (true, "26b878b63ef63cc43124637353db77af1466bbb641a8d05c6f0965253ec98f87"), looks := false }, kinds := [], alts := [], laidByText := true, laidKinds := [.data], laidTests := true, laidLooks := .later }
def MaskBeginsCardSaid : Prop := Claim7.holds Tryd.pinned (.plain (OpenSpec.ofChange maskBeginsSpec)) maskBeginsCard

/-- THE SECOND FORM's CARD OF 'offertorylaw17.MaskPairs'. -/
def maskPairsUptoCard : Claim7 := { stood := { row := maskPairsUptoRow, standIns := [], harness := (true, "26b878b63ef63cc43124637353db77af1466bbb641a8d05c6f0965253ec98f87"), looks := false }, kinds := [], alts := [], laidByText := true, laidKinds := [.data], laidTests := true, laidLooks := .later }
def MaskPairsUptoCardSaid : Prop := Claim7.holds Tryd.pinned (.plain (OpenSpec.upto maskPairsSpec)) maskPairsUptoCard

/-- THE SECOND FORM's CARD OF 'offertorylaw17.MaskHides'. -/
def maskHidesUptoCard : Claim7 := { stood := { row := maskHidesUptoRow, standIns := [], harness := (true, "26b878b63ef63cc43124637353db77af1466bbb641a8d05c6f0965253ec98f87"), looks := false }, kinds := [], alts := [], laidByText := true, laidKinds := [.data], laidTests := true, laidLooks := .later }
def MaskHidesUptoCardSaid : Prop := Claim7.holds Tryd.pinned (.plain (OpenSpec.upto maskHidesSpec)) maskHidesUptoCard

/-- THE SECOND FORM's CARD OF 'offertorylaw17.MaskLeft'. -/
def maskLeftUptoCard : Claim7 := { stood := { row := maskLeftUptoRow, standIns := [], harness := (true, "26b878b63ef63cc43124637353db77af1466bbb641a8d05c6f0965253ec98f87"), looks := false }, kinds := [], alts := [], laidByText := true, laidKinds := [.data], laidTests := true, laidLooks := .later }
def MaskLeftUptoCardSaid : Prop := Claim7.holds Tryd.pinned (.plain (OpenSpec.upto maskLeftSpec)) maskLeftUptoCard

/-- THE SECOND FORM's CARD OF 'offertorylaw17.MaskGoes'. -/
def maskGoesUptoCard : Claim7 := { stood := { row := maskGoesUptoRow, standIns := [], harness := (true, "26b878b63ef63cc43124637353db77af1466bbb641a8d05c6f0965253ec98f87"), looks := false }, kinds := [], alts := [], laidByText := true, laidKinds := [.data], laidTests := true, laidLooks := .later }
def MaskGoesUptoCardSaid : Prop := Claim7.holds Tryd.pinned (.plain (OpenSpec.upto maskGoesSpec)) maskGoesUptoCard

/-- THE SECOND FORM's CARD OF 'offertorylaw17.MaskBegins'. -/
def maskBeginsUptoCard : Claim7 := { stood := { row := maskBeginsUptoRow, standIns := [], harness := (true, "26b878b63ef63cc43124637353db77af1466bbb641a8d05c6f0965253ec98f87"), looks := false }, kinds := [], alts := [], laidByText := true, laidKinds := [.data], laidTests := true, laidLooks := .later }
def MaskBeginsUptoCardSaid : Prop := Claim7.holds Tryd.pinned (.plain (OpenSpec.upto maskBeginsSpec)) maskBeginsUptoCard
end Rows
end Go.Proofs.YtjbpnhibgafdmaaDoor
