/-
  DERIVED. GIVEN WITH THE SEED: THE CARDS: each row of YtnnnleckoinjoaaDoorRows.lean that lists a variable, with what it lists TIED to the program's text (the seventh form; the later family's looks); each row that meets fmt, with fmt's text TOLD by the authors' own Lean function (tested against real Go, not proved from fmt's source: count such statements apart). THE CARD IS WHAT COUNTS. Prove the row's statement (the work); the ties are given (YtnnnleckoinjoaaDoorTie.lean); close each card by the builder's one call (the guide's Derived/Test/ToyasCard.lean, 'card_holds'). Laid BY PROGRAM, IN A SANDBOX (cutbox-door.mjs). By AI agents, Wed Nov 11 2026. No macro, syntax, notation, axiom, sorry.
-/
import Derived.Test.YtnnnleckoinjoaaDoorRows
import GoSem.ClaimSeven
namespace Go.Proofs.YtnnnleckoinjoaaDoor
namespace Rows

/-- THE TIED CARD OF 'forestkeep.Forgets'. -/
def forgetsCard : Claim7 := { stood := { row := forgetsRow, standIns := [], harness := (true, "04e3b10e34182787adae927cbd419e2d1c70fb291234a48ba0c4d041e13c962d"), looks := false }, kinds := [], alts := [], laidByText := true, laidKinds := [.data, .data, .data], laidTests := true, laidLooks := .later }
def ForgetsCardSaid : Prop := Claim7.holds Tryd.pinned (.plain (OpenSpec.ofChange forgetsSpec)) forgetsCard

/-- THE TIED CARD OF 'forestkeep.Undone'. -/
def undoneCard : Claim7 := { stood := { row := undoneRow, standIns := [], harness := (true, "04e3b10e34182787adae927cbd419e2d1c70fb291234a48ba0c4d041e13c962d"), looks := false }, kinds := [], alts := [], laidByText := true, laidKinds := [.data, .data, .data], laidTests := true, laidLooks := .later }
def UndoneCardSaid : Prop := Claim7.holds Tryd.pinned (.plain (OpenSpec.ofChange undoneSpec)) undoneCard

/-- THE TIED CARD OF 'forestkeep.Refused'. -/
def refusedCard : Claim7 := { stood := { row := refusedRow, standIns := [], harness := (true, "04e3b10e34182787adae927cbd419e2d1c70fb291234a48ba0c4d041e13c962d"), looks := false }, kinds := [], alts := [], laidByText := true, laidKinds := [.data, .data, .data], laidTests := true, laidLooks := .later }
def RefusedCardSaid : Prop := Claim7.holds Tryd.pinned (.plain (OpenSpec.ofChange refusedSpec)) refusedCard

/-- THE TIED CARD OF 'forestkeep.Back'. -/
def backCard : Claim7 := { stood := { row := backRow, standIns := [], harness := (true, "04e3b10e34182787adae927cbd419e2d1c70fb291234a48ba0c4d041e13c962d"), looks := false }, kinds := [], alts := [], laidByText := true, laidKinds := [.data, .data, .data], laidTests := true, laidLooks := .later }
def BackCardSaid : Prop := Claim7.holds Tryd.pinned (.plain (OpenSpec.ofChange backSpec)) backCard

/-- THE TIED CARD OF 'forestkeep.Total'. -/
def totalCard : Claim7 := { stood := { row := totalRow, standIns := [], harness := (true, "04e3b10e34182787adae927cbd419e2d1c70fb291234a48ba0c4d041e13c962d"), looks := false }, kinds := [], alts := [], laidByText := true, laidKinds := [.data, .data, .data], laidTests := true, laidLooks := .later }
def TotalCardSaid : Prop := Claim7.holds Tryd.pinned (.plain (OpenSpec.ofChange totalSpec)) totalCard

/-- THE SECOND FORM's CARD OF 'forestkeep.Forgets'. -/
def forgetsUptoCard : Claim7 := { stood := { row := forgetsUptoRow, standIns := [], harness := (true, "04e3b10e34182787adae927cbd419e2d1c70fb291234a48ba0c4d041e13c962d"), looks := false }, kinds := [], alts := [], laidByText := true, laidKinds := [.data, .data, .data], laidTests := true, laidLooks := .later }
def ForgetsUptoCardSaid : Prop := Claim7.holds Tryd.pinned (.plain (OpenSpec.upto forgetsSpec)) forgetsUptoCard

/-- THE SECOND FORM's CARD OF 'forestkeep.Undone'. -/
def undoneUptoCard : Claim7 := { stood := { row := undoneUptoRow, standIns := [], harness := (true, "04e3b10e34182787adae927cbd419e2d1c70fb291234a48ba0c4d041e13c962d"), looks := false }, kinds := [], alts := [], laidByText := true, laidKinds := [.data, .data, .data], laidTests := true, laidLooks := .later }
def UndoneUptoCardSaid : Prop := Claim7.holds Tryd.pinned (.plain (OpenSpec.upto undoneSpec)) undoneUptoCard

/-- THE SECOND FORM's CARD OF 'forestkeep.Refused'. -/
def refusedUptoCard : Claim7 := { stood := { row := refusedUptoRow, standIns := [], harness := (true, "04e3b10e34182787adae927cbd419e2d1c70fb291234a48ba0c4d041e13c962d"), looks := false }, kinds := [], alts := [], laidByText := true, laidKinds := [.data, .data, .data], laidTests := true, laidLooks := .later }
def RefusedUptoCardSaid : Prop := Claim7.holds Tryd.pinned (.plain (OpenSpec.upto refusedSpec)) refusedUptoCard

/-- THE SECOND FORM's CARD OF 'forestkeep.Back'. -/
def backUptoCard : Claim7 := { stood := { row := backUptoRow, standIns := [], harness := (true, "04e3b10e34182787adae927cbd419e2d1c70fb291234a48ba0c4d041e13c962d"), looks := false }, kinds := [], alts := [], laidByText := true, laidKinds := [.data, .data, .data], laidTests := true, laidLooks := .later }
def BackUptoCardSaid : Prop := Claim7.holds Tryd.pinned (.plain (OpenSpec.upto backSpec)) backUptoCard

/-- THE SECOND FORM's CARD OF 'forestkeep.Total'. -/
def totalUptoCard : Claim7 := { stood := { row := totalUptoRow, standIns := [], harness := (true, "04e3b10e34182787adae927cbd419e2d1c70fb291234a48ba0c4d041e13c962d"), looks := false }, kinds := [], alts := [], laidByText := true, laidKinds := [.data, .data, .data], laidTests := true, laidLooks := .later }
def TotalUptoCardSaid : Prop := Claim7.holds Tryd.pinned (.plain (OpenSpec.upto totalSpec)) totalUptoCard
end Rows
end Go.Proofs.YtnnnleckoinjoaaDoor
