/-
  DERIVED. GIVEN WITH THE SEED: THE CARDS: each row of YtnnnleckoinjoaaGreatDoorRows.lean that lists a variable, with what it lists TIED to the program's text (the seventh form; the later family's looks); each row that meets fmt, with fmt's text TOLD by the authors' own Lean function (tested against real Go, not proved from fmt's source: count such statements apart). THE CARD IS WHAT COUNTS. Prove the row's statement (the work); the ties are given (YtnnnleckoinjoaaGreatDoorTie.lean); close each card by the builder's one call (the guide's Derived/Test/ToyasCard.lean, 'card_holds'). Laid BY PROGRAM, IN A SANDBOX (cutbox-door.mjs). By AI agents, Wed Nov 11 2026. No macro, syntax, notation, axiom, sorry.
-/
import Derived.Test.YtnnnleckoinjoaaGreatDoorRows
import GoSem.ClaimSeven
namespace Go.Proofs.YtnnnleckoinjoaaGreatDoor
namespace Rows

/-- THE TIED CARD OF 'forestlaw.Comes'. -/
def comesCard : Claim7 := { stood := { row := comesRow, standIns := [], harness := (true, "f383b0ed97b990eb1fc319e7ce52301b86553462890d0c8d72fb9fba327c4160"), looks := false }, kinds := [], alts := [], laidByText := true, laidKinds := [.data, .data, .data], laidTests := true, laidLooks := .later }
def ComesCardSaid : Prop := Claim7.holds Tryz.pinned (.plain (OpenSpec.ofChange comesSpec)) comesCard

/-- THE TIED CARD OF 'forestlaw.Goes'. -/
def goesCard : Claim7 := { stood := { row := goesRow, standIns := [], harness := (true, "f383b0ed97b990eb1fc319e7ce52301b86553462890d0c8d72fb9fba327c4160"), looks := false }, kinds := [], alts := [], laidByText := true, laidKinds := [.data, .data, .data], laidTests := true, laidLooks := .later }
def GoesCardSaid : Prop := Claim7.holds Tryz.pinned (.plain (OpenSpec.ofChange goesSpec)) goesCard

/-- THE TIED CARD OF 'forestlaw.Hangs'. -/
def hangsCard : Claim7 := { stood := { row := hangsRow, standIns := [], harness := (true, "f383b0ed97b990eb1fc319e7ce52301b86553462890d0c8d72fb9fba327c4160"), looks := false }, kinds := [], alts := [], laidByText := true, laidKinds := [.data, .data, .data], laidTests := true, laidLooks := .later }
def HangsCardSaid : Prop := Claim7.holds Tryz.pinned (.plain (OpenSpec.ofChange hangsSpec)) hangsCard

/-- THE TIED CARD OF 'forestlaw.All'. -/
def allCard : Claim7 := { stood := { row := allRow, standIns := [], harness := (true, "f383b0ed97b990eb1fc319e7ce52301b86553462890d0c8d72fb9fba327c4160"), looks := false }, kinds := [], alts := [], laidByText := true, laidKinds := [.data, .data, .data], laidTests := true, laidLooks := .later }
def AllCardSaid : Prop := Claim7.holds Tryz.pinned (.plain (OpenSpec.ofChange allSpec)) allCard

/-- THE TIED CARD OF 'forestlaw.Loads'. -/
def loadsCard : Claim7 := { stood := { row := loadsRow, standIns := [], harness := (true, "f383b0ed97b990eb1fc319e7ce52301b86553462890d0c8d72fb9fba327c4160"), looks := false }, kinds := [], alts := [], laidByText := true, laidKinds := [.data, .data, .data], laidTests := true, laidLooks := .later }
def LoadsCardSaid : Prop := Claim7.holds Tryz.pinned (.plain (OpenSpec.ofChange loadsSpec)) loadsCard

/-- THE SECOND FORM's CARD OF 'forestlaw.Comes'. -/
def comesUptoCard : Claim7 := { stood := { row := comesUptoRow, standIns := [], harness := (true, "f383b0ed97b990eb1fc319e7ce52301b86553462890d0c8d72fb9fba327c4160"), looks := false }, kinds := [], alts := [], laidByText := true, laidKinds := [.data, .data, .data], laidTests := true, laidLooks := .later }
def ComesUptoCardSaid : Prop := Claim7.holds Tryz.pinned (.plain (OpenSpec.upto comesSpec)) comesUptoCard

/-- THE SECOND FORM's CARD OF 'forestlaw.Goes'. -/
def goesUptoCard : Claim7 := { stood := { row := goesUptoRow, standIns := [], harness := (true, "f383b0ed97b990eb1fc319e7ce52301b86553462890d0c8d72fb9fba327c4160"), looks := false }, kinds := [], alts := [], laidByText := true, laidKinds := [.data, .data, .data], laidTests := true, laidLooks := .later }
def GoesUptoCardSaid : Prop := Claim7.holds Tryz.pinned (.plain (OpenSpec.upto goesSpec)) goesUptoCard

/-- THE SECOND FORM's CARD OF 'forestlaw.Hangs'. -/
def hangsUptoCard : Claim7 := { stood := { row := hangsUptoRow, standIns := [], harness := (true, "f383b0ed97b990eb1fc319e7ce52301b86553462890d0c8d72fb9fba327c4160"), looks := false }, kinds := [], alts := [], laidByText := true, laidKinds := [.data, .data, .data], laidTests := true, laidLooks := .later }
def HangsUptoCardSaid : Prop := Claim7.holds Tryz.pinned (.plain (OpenSpec.upto hangsSpec)) hangsUptoCard

/-- THE SECOND FORM's CARD OF 'forestlaw.All'. -/
def allUptoCard : Claim7 := { stood := { row := allUptoRow, standIns := [], harness := (true, "f383b0ed97b990eb1fc319e7ce52301b86553462890d0c8d72fb9fba327c4160"), looks := false }, kinds := [], alts := [], laidByText := true, laidKinds := [.data, .data, .data], laidTests := true, laidLooks := .later }
def AllUptoCardSaid : Prop := Claim7.holds Tryz.pinned (.plain (OpenSpec.upto allSpec)) allUptoCard

/-- THE SECOND FORM's CARD OF 'forestlaw.Loads'. -/
def loadsUptoCard : Claim7 := { stood := { row := loadsUptoRow, standIns := [], harness := (true, "f383b0ed97b990eb1fc319e7ce52301b86553462890d0c8d72fb9fba327c4160"), looks := false }, kinds := [], alts := [], laidByText := true, laidKinds := [.data, .data, .data], laidTests := true, laidLooks := .later }
def LoadsUptoCardSaid : Prop := Claim7.holds Tryz.pinned (.plain (OpenSpec.upto loadsSpec)) loadsUptoCard
end Rows
end Go.Proofs.YtnnnleckoinjoaaGreatDoor
