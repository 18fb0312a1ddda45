/-
  DERIVED. GIVEN WITH THE SEED: THE CARDS: each row of YtjbhcmmoidmgfaaDoorRows.lean that lists a variable, with what it lists TIED to the program's text (the seventh form; the later family's looks); each row that meets fmt, with fmt's text TOLD by the authors' own Lean function (tested against real Go, not proved from fmt's source: count such statements apart). THE CARD IS WHAT COUNTS. Prove the row's statement (the work); the ties are given (YtjbhcmmoidmgfaaDoorTie.lean); close each card by the builder's one call (the guide's Derived/Test/ToyasCard.lean, 'card_holds'). Laid BY PROGRAM, IN A SANDBOX (cutbox-door.mjs). By AI agents, Wed Nov 11 2026. No macro, syntax, notation, axiom, sorry.
-/
import Derived.Test.YtjbhcmmoidmgfaaDoorRows
import GoSem.ClaimSeven
namespace Go.Proofs.YtjbhcmmoidmgfaaDoor
namespace Rows

/-- THE TIED CARD OF 'forestlaw.Comes'. -/
def comesCard : Claim7 := { stood := { row := comesRow, standIns := [], harness := (true, "f34d2f33c48f0f56483d3e339b5ac27b564d5d20104f6ef3d7c8717a7a140c07"), looks := false }, kinds := [], alts := [], laidByText := true, laidKinds := [.data, .data, .data], laidTests := true, laidLooks := .later }
def ComesCardSaid : Prop := Claim7.holds Tryd.pinned (.plain (OpenSpec.ofChange comesSpec)) comesCard

/-- THE TIED CARD OF 'forestlaw.Goes'. -/
def goesCard : Claim7 := { stood := { row := goesRow, standIns := [], harness := (true, "f34d2f33c48f0f56483d3e339b5ac27b564d5d20104f6ef3d7c8717a7a140c07"), looks := false }, kinds := [], alts := [], laidByText := true, laidKinds := [.data, .data, .data], laidTests := true, laidLooks := .later }
def GoesCardSaid : Prop := Claim7.holds Tryd.pinned (.plain (OpenSpec.ofChange goesSpec)) goesCard

/-- THE SECOND FORM's CARD OF 'forestlaw.Comes'. -/
def comesUptoCard : Claim7 := { stood := { row := comesUptoRow, standIns := [], harness := (true, "f34d2f33c48f0f56483d3e339b5ac27b564d5d20104f6ef3d7c8717a7a140c07"), looks := false }, kinds := [], alts := [], laidByText := true, laidKinds := [.data, .data, .data], laidTests := true, laidLooks := .later }
def ComesUptoCardSaid : Prop := Claim7.holds Tryd.pinned (.plain (OpenSpec.upto comesSpec)) comesUptoCard

/-- THE SECOND FORM's CARD OF 'forestlaw.Goes'. -/
def goesUptoCard : Claim7 := { stood := { row := goesUptoRow, standIns := [], harness := (true, "f34d2f33c48f0f56483d3e339b5ac27b564d5d20104f6ef3d7c8717a7a140c07"), looks := false }, kinds := [], alts := [], laidByText := true, laidKinds := [.data, .data, .data], laidTests := true, laidLooks := .later }
def GoesUptoCardSaid : Prop := Claim7.holds Tryd.pinned (.plain (OpenSpec.upto goesSpec)) goesUptoCard
end Rows
end Go.Proofs.YtjbhcmmoidmgfaaDoor
