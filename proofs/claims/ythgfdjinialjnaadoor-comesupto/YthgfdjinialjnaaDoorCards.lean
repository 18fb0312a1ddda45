/-
  DERIVED. GIVEN WITH THE SEED: THE CARDS: each row of YthgfdjinialjnaaDoorRows.lean that lists a variable, with what it lists TIED to the program's text (the seventh form; the later family's looks); each row that meets fmt, with fmt's text TOLD by the authors' own Lean function (tested against real Go, not proved from fmt's source: count such statements apart). THE CARD IS WHAT COUNTS. Prove the row's statement (the work); the ties are given (YthgfdjinialjnaaDoorTie.lean); close each card by the builder's one call (the guide's Derived/Test/ToyasCard.lean, 'card_holds'). Laid BY PROGRAM, IN A SANDBOX (cutbox-door.mjs). By AI agents, Wed Nov 11 2026. No macro, syntax, notation, axiom, sorry.
-/
import Derived.Test.YthgfdjinialjnaaDoorRows
import GoSem.ClaimSeven
namespace Go.Proofs.YthgfdjinialjnaaDoor
namespace Rows

/-- THE TIED CARD OF 'forestlaw.Comes'. -/
def comesCard : Claim7 := { stood := { row := comesRow, standIns := [], harness := (true, "e16016ecef7bda9652d23574ae8148b867df4cec551a8a51c7514ad3fac034e7"), looks := false }, kinds := [], alts := [], laidByText := true, laidKinds := [.data, .data, .data], laidTests := true, laidLooks := .later }
def ComesCardSaid : Prop := Claim7.holds Tryd.pinned (.plain (OpenSpec.ofChange comesSpec)) comesCard

/-- THE SECOND FORM's CARD OF 'forestlaw.Comes'. -/
def comesUptoCard : Claim7 := { stood := { row := comesUptoRow, standIns := [], harness := (true, "e16016ecef7bda9652d23574ae8148b867df4cec551a8a51c7514ad3fac034e7"), looks := false }, kinds := [], alts := [], laidByText := true, laidKinds := [.data, .data, .data], laidTests := true, laidLooks := .later }
def ComesUptoCardSaid : Prop := Claim7.holds Tryd.pinned (.plain (OpenSpec.upto comesSpec)) comesUptoCard
end Rows
end Go.Proofs.YthgfdjinialjnaaDoor
