/-
  DERIVED. GIVEN WITH THE SEED: THE CARDS: each row of YtigeebbijldnfaaGreatDoorRows.lean that lists a variable, with what it lists TIED to the program's text (the seventh form; the later family's looks); each row that meets fmt, with fmt's text TOLD by the authors' own Lean function (tested against real Go, not proved from fmt's source: count such statements apart). THE CARD IS WHAT COUNTS. Prove the row's statement (the work); the ties are given (YtigeebbijldnfaaGreatDoorTie.lean); close each card by the builder's one call (the guide's Derived/Test/ToyasCard.lean, 'card_holds'). Laid BY PROGRAM, IN A SANDBOX (cutbox-door.mjs). By AI agents, Wed Nov 11 2026. No macro, syntax, notation, axiom, sorry.
-/
import Derived.Test.YtigeebbijldnfaaGreatDoorRows
import GoSem.ClaimSeven
namespace Go.Proofs.YtigeebbijldnfaaGreatDoor
namespace Rows

/-- THE TIED CARD OF 'forestlaw.Comes'. -/
def comesCard : Claim7 := { stood := { row := comesRow, standIns := [], harness := (true, "7ed0ecfd04e1df363c16e7fe81368ae3fa52ee24bcdf32bcf8d525c318b458d8"), looks := false }, kinds := [], alts := [], laidByText := true, laidKinds := [.data, .data, .data], laidTests := true, laidLooks := .later }
def ComesCardSaid : Prop := Claim7.holds Tryz.pinned (.plain (OpenSpec.ofChange comesSpec)) comesCard

/-- THE TIED CARD OF 'forestlaw.Goes'. -/
def goesCard : Claim7 := { stood := { row := goesRow, standIns := [], harness := (true, "7ed0ecfd04e1df363c16e7fe81368ae3fa52ee24bcdf32bcf8d525c318b458d8"), looks := false }, kinds := [], alts := [], laidByText := true, laidKinds := [.data, .data, .data], laidTests := true, laidLooks := .later }
def GoesCardSaid : Prop := Claim7.holds Tryz.pinned (.plain (OpenSpec.ofChange goesSpec)) goesCard

/-- THE TIED CARD OF 'forestlaw.Hangs'. -/
def hangsCard : Claim7 := { stood := { row := hangsRow, standIns := [], harness := (true, "7ed0ecfd04e1df363c16e7fe81368ae3fa52ee24bcdf32bcf8d525c318b458d8"), looks := false }, kinds := [], alts := [], laidByText := true, laidKinds := [.data, .data, .data], laidTests := true, laidLooks := .later }
def HangsCardSaid : Prop := Claim7.holds Tryz.pinned (.plain (OpenSpec.ofChange hangsSpec)) hangsCard

/-- THE SECOND FORM's CARD OF 'forestlaw.Comes'. -/
def comesUptoCard : Claim7 := { stood := { row := comesUptoRow, standIns := [], harness := (true, "7ed0ecfd04e1df363c16e7fe81368ae3fa52ee24bcdf32bcf8d525c318b458d8"), looks := false }, kinds := [], alts := [], laidByText := true, laidKinds := [.data, .data, .data], laidTests := true, laidLooks := .later }
def ComesUptoCardSaid : Prop := Claim7.holds Tryz.pinned (.plain (OpenSpec.upto comesSpec)) comesUptoCard

/-- THE SECOND FORM's CARD OF 'forestlaw.Goes'. -/
def goesUptoCard : Claim7 := { stood := { row := goesUptoRow, standIns := [], harness := (true, "7ed0ecfd04e1df363c16e7fe81368ae3fa52ee24bcdf32bcf8d525c318b458d8"), looks := false }, kinds := [], alts := [], laidByText := true, laidKinds := [.data, .data, .data], laidTests := true, laidLooks := .later }
def GoesUptoCardSaid : Prop := Claim7.holds Tryz.pinned (.plain (OpenSpec.upto goesSpec)) goesUptoCard

/-- THE SECOND FORM's CARD OF 'forestlaw.Hangs'. -/
def hangsUptoCard : Claim7 := { stood := { row := hangsUptoRow, standIns := [], harness := (true, "7ed0ecfd04e1df363c16e7fe81368ae3fa52ee24bcdf32bcf8d525c318b458d8"), looks := false }, kinds := [], alts := [], laidByText := true, laidKinds := [.data, .data, .data], laidTests := true, laidLooks := .later }
def HangsUptoCardSaid : Prop := Claim7.holds Tryz.pinned (.plain (OpenSpec.upto hangsSpec)) hangsUptoCard
end Rows
end Go.Proofs.YtigeebbijldnfaaGreatDoor
