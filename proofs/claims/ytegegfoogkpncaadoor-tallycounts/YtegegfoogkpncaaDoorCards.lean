/-
  DERIVED. GIVEN WITH THE SEED: THE CARDS: each row of YtegegfoogkpncaaDoorRows.lean that lists a variable, with what it lists TIED to the program's text (the seventh form; the later family's looks); each row that meets fmt, with fmt's text TOLD by the authors' own Lean function (tested against real Go, not proved from fmt's source: count such statements apart). THE CARD IS WHAT COUNTS. Prove the row's statement (the work); the ties are given (YtegegfoogkpncaaDoorTie.lean); close each card by the builder's one call (the guide's Derived/Test/ToyasCard.lean, 'card_holds'). Laid BY PROGRAM, IN A SANDBOX (cutbox-door.mjs). By AI agents, Wed Nov 11 2026. No macro, syntax, notation, axiom, sorry.
-/
import Derived.Test.YtegegfoogkpncaaDoorRows
import GoSem.ClaimSeven
namespace Go.Proofs.YtegegfoogkpncaaDoor
namespace Rows

/-- THE TIED CARD OF 'offertorylaw12.TallyLens'. -/
def tallyLensCard : Claim7 := { stood := { row := tallyLensRow, standIns := [], harness := (true, "4108d98251c92582592dc33a2bdf9c4cc8689e2c9045babf8d5b2a05bbb58852"), looks := false }, kinds := [], alts := [], laidByText := true, laidKinds := [.data], laidTests := true, laidLooks := .later }
def TallyLensCardSaid : Prop := Claim7.holds Tryd.pinned (.plain (OpenSpec.ofChange tallyLensSpec)) tallyLensCard

/-- THE TIED CARD OF 'offertorylaw12.TallyWrites'. -/
def tallyWritesCard : Claim7 := { stood := { row := tallyWritesRow, standIns := [], harness := (true, "4108d98251c92582592dc33a2bdf9c4cc8689e2c9045babf8d5b2a05bbb58852"), looks := false }, kinds := [], alts := [], laidByText := true, laidKinds := [.data], laidTests := true, laidLooks := .later }
def TallyWritesCardSaid : Prop := Claim7.holds Tryd.pinned (.plain (OpenSpec.ofChange tallyWritesSpec)) tallyWritesCard

/-- THE TIED CARD OF 'offertorylaw12.TallyAdds'. -/
def tallyAddsCard : Claim7 := { stood := { row := tallyAddsRow, standIns := [], harness := (true, "4108d98251c92582592dc33a2bdf9c4cc8689e2c9045babf8d5b2a05bbb58852"), looks := false }, kinds := [], alts := [], laidByText := true, laidKinds := [.data], laidTests := true, laidLooks := .later }
def TallyAddsCardSaid : Prop := Claim7.holds Tryd.pinned (.plain (OpenSpec.ofChange tallyAddsSpec)) tallyAddsCard

/-- THE TIED CARD OF 'offertorylaw12.TallyOrder'. -/
def tallyOrderCard : Claim7 := { stood := { row := tallyOrderRow, standIns := [], harness := (true, "4108d98251c92582592dc33a2bdf9c4cc8689e2c9045babf8d5b2a05bbb58852"), looks := false }, kinds := [], alts := [], laidByText := true, laidKinds := [.data], laidTests := true, laidLooks := .later }
def TallyOrderCardSaid : Prop := Claim7.holds Tryd.pinned (.plain (OpenSpec.ofChange tallyOrderSpec)) tallyOrderCard

/-- THE TIED CARD OF 'offertorylaw12.TallyCounts'. -/
def tallyCountsCard : Claim7 := { stood := { row := tallyCountsRow, standIns := [], harness := (true, "4108d98251c92582592dc33a2bdf9c4cc8689e2c9045babf8d5b2a05bbb58852"), looks := false }, kinds := [], alts := [], laidByText := true, laidKinds := [.data], laidTests := true, laidLooks := .later }
def TallyCountsCardSaid : Prop := Claim7.holds Tryd.pinned (.plain (OpenSpec.ofChange tallyCountsSpec)) tallyCountsCard

/-- THE SECOND FORM's CARD OF 'offertorylaw12.TallyLens'. -/
def tallyLensUptoCard : Claim7 := { stood := { row := tallyLensUptoRow, standIns := [], harness := (true, "4108d98251c92582592dc33a2bdf9c4cc8689e2c9045babf8d5b2a05bbb58852"), looks := false }, kinds := [], alts := [], laidByText := true, laidKinds := [.data], laidTests := true, laidLooks := .later }
def TallyLensUptoCardSaid : Prop := Claim7.holds Tryd.pinned (.plain (OpenSpec.upto tallyLensSpec)) tallyLensUptoCard

/-- THE SECOND FORM's CARD OF 'offertorylaw12.TallyWrites'. -/
def tallyWritesUptoCard : Claim7 := { stood := { row := tallyWritesUptoRow, standIns := [], harness := (true, "4108d98251c92582592dc33a2bdf9c4cc8689e2c9045babf8d5b2a05bbb58852"), looks := false }, kinds := [], alts := [], laidByText := true, laidKinds := [.data], laidTests := true, laidLooks := .later }
def TallyWritesUptoCardSaid : Prop := Claim7.holds Tryd.pinned (.plain (OpenSpec.upto tallyWritesSpec)) tallyWritesUptoCard

/-- THE SECOND FORM's CARD OF 'offertorylaw12.TallyAdds'. -/
def tallyAddsUptoCard : Claim7 := { stood := { row := tallyAddsUptoRow, standIns := [], harness := (true, "4108d98251c92582592dc33a2bdf9c4cc8689e2c9045babf8d5b2a05bbb58852"), looks := false }, kinds := [], alts := [], laidByText := true, laidKinds := [.data], laidTests := true, laidLooks := .later }
def TallyAddsUptoCardSaid : Prop := Claim7.holds Tryd.pinned (.plain (OpenSpec.upto tallyAddsSpec)) tallyAddsUptoCard

/-- THE SECOND FORM's CARD OF 'offertorylaw12.TallyOrder'. -/
def tallyOrderUptoCard : Claim7 := { stood := { row := tallyOrderUptoRow, standIns := [], harness := (true, "4108d98251c92582592dc33a2bdf9c4cc8689e2c9045babf8d5b2a05bbb58852"), looks := false }, kinds := [], alts := [], laidByText := true, laidKinds := [.data], laidTests := true, laidLooks := .later }
def TallyOrderUptoCardSaid : Prop := Claim7.holds Tryd.pinned (.plain (OpenSpec.upto tallyOrderSpec)) tallyOrderUptoCard

/-- THE SECOND FORM's CARD OF 'offertorylaw12.TallyCounts'. -/
def tallyCountsUptoCard : Claim7 := { stood := { row := tallyCountsUptoRow, standIns := [], harness := (true, "4108d98251c92582592dc33a2bdf9c4cc8689e2c9045babf8d5b2a05bbb58852"), looks := false }, kinds := [], alts := [], laidByText := true, laidKinds := [.data], laidTests := true, laidLooks := .later }
def TallyCountsUptoCardSaid : Prop := Claim7.holds Tryd.pinned (.plain (OpenSpec.upto tallyCountsSpec)) tallyCountsUptoCard
end Rows
end Go.Proofs.YtegegfoogkpncaaDoor
