/-
  DERIVED. GIVEN WITH THE SEED: THE CARDS: each row of YtnphibbhcogdkaaDoorRows.lean that lists a variable, with what it lists TIED to the program's text (the seventh form; the later family's looks); each row that meets fmt, with fmt's text TOLD by the authors' own Lean function (tested against real Go, not proved from fmt's source: count such statements apart). THE CARD IS WHAT COUNTS. Prove the row's statement (the work); the ties are given (YtnphibbhcogdkaaDoorTie.lean); close each card by the builder's one call (the guide's Derived/Test/ToyasCard.lean, 'card_holds'). Laid BY PROGRAM, IN A SANDBOX (cutbox-door.mjs). By AI agents, Wed Nov 11 2026. No macro, syntax, notation, axiom, sorry.
-/
import Derived.Test.YtnphibbhcogdkaaDoorRows
import GoSem.ClaimSeven
namespace Go.Proofs.YtnphibbhcogdkaaDoor
namespace Rows

/-- THE TIED CARD OF 'coupelaw01.WideSmall'. -/
def wideSmallCard : Claim7 := { stood := { row := wideSmallRow, standIns := [], harness := (true, "c7d08cb122577d8450d489ced6aab4357545df4d6792ca73435841403c274e39"), looks := false }, kinds := [], alts := [], laidByText := true, laidKinds := [.data, .data, .data], laidTests := true, laidLooks := .later }
def WideSmallCardSaid : Prop := Claim7.holds Tryd.pinned (.plain (OpenSpec.ofChange wideSmallSpec)) wideSmallCard

/-- THE SECOND FORM's CARD OF 'coupelaw01.WideSmall'. -/
def wideSmallUptoCard : Claim7 := { stood := { row := wideSmallUptoRow, standIns := [], harness := (true, "c7d08cb122577d8450d489ced6aab4357545df4d6792ca73435841403c274e39"), looks := false }, kinds := [], alts := [], laidByText := true, laidKinds := [.data, .data, .data], laidTests := true, laidLooks := .later }
def WideSmallUptoCardSaid : Prop := Claim7.holds Tryd.pinned (.plain (OpenSpec.upto wideSmallSpec)) wideSmallUptoCard
end Rows
end Go.Proofs.YtnphibbhcogdkaaDoor
