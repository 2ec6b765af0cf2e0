/-
  DERIVED. GIVEN WITH THE SEED: THE CARDS: each row of YtgfjofdjicepiaaDoorRows.lean that lists a variable, with what it lists TIED to the program's text (the seventh form; the later family's looks); each row that meets fmt, with fmt's text TOLD by the authors' own Lean function (tested against real Go, not proved from fmt's source: count such statements apart). THE CARD IS WHAT COUNTS. Prove the row's statement (the work); the ties are given (YtgfjofdjicepiaaDoorTie.lean); close each card by the builder's one call (the guide's Derived/Test/ToyasCard.lean, 'card_holds'). Laid BY PROGRAM, IN A SANDBOX (cutbox-door.mjs). By AI agents, Wed Nov 11 2026. No macro, syntax, notation, axiom, sorry.
-/
import Derived.Test.YtgfjofdjicepiaaDoorRows
import GoSem.ClaimSeven
namespace Go.Proofs.YtgfjofdjicepiaaDoor
namespace Rows

/-- THE TIED CARD OF 'coupelaw04.UnitsTexts'. -/
def unitsTextsCard : Claim7 := { stood := { row := unitsTextsRow, standIns := [], harness := (true, "646db80bc40827626b96ce6e23c8598ce8ec7f002105c163dfd08fcb3cbff586"), looks := false }, kinds := [], alts := [], laidByText := true, laidKinds := [.data, .data, .data, .data], laidTests := true, laidLooks := .later }
def UnitsTextsCardSaid : Prop := Claim7.holds Tryd.pinned (.plain (OpenSpec.ofChange unitsTextsSpec)) unitsTextsCard

/-- THE TIED CARD OF 'coupelaw04.UnitsReads'. -/
def unitsReadsCard : Claim7 := { stood := { row := unitsReadsRow, standIns := [], harness := (true, "646db80bc40827626b96ce6e23c8598ce8ec7f002105c163dfd08fcb3cbff586"), looks := false }, kinds := [], alts := [], laidByText := true, laidKinds := [.data, .data, .data, .data], laidTests := true, laidLooks := .later }
def UnitsReadsCardSaid : Prop := Claim7.holds Tryd.pinned (.plain (OpenSpec.ofChange unitsReadsSpec)) unitsReadsCard

/-- THE TIED CARD OF 'coupelaw04.UnitsRounds'. -/
def unitsRoundsCard : Claim7 := { stood := { row := unitsRoundsRow, standIns := [], harness := (true, "646db80bc40827626b96ce6e23c8598ce8ec7f002105c163dfd08fcb3cbff586"), looks := false }, kinds := [], alts := [], laidByText := true, laidKinds := [.data, .data, .data, .data], laidTests := true, laidLooks := .later }
def UnitsRoundsCardSaid : Prop := Claim7.holds Tryd.pinned (.plain (OpenSpec.ofChange unitsRoundsSpec)) unitsRoundsCard

/-- THE TIED CARD OF 'coupelaw04.UnitsAreas'. -/
def unitsAreasCard : Claim7 := { stood := { row := unitsAreasRow, standIns := [], harness := (true, "646db80bc40827626b96ce6e23c8598ce8ec7f002105c163dfd08fcb3cbff586"), looks := false }, kinds := [], alts := [], laidByText := true, laidKinds := [.data, .data, .data, .data], laidTests := true, laidLooks := .later }
def UnitsAreasCardSaid : Prop := Claim7.holds Tryd.pinned (.plain (OpenSpec.ofChange unitsAreasSpec)) unitsAreasCard

/-- THE TIED CARD OF 'coupelaw04.UnitsDays'. -/
def unitsDaysCard : Claim7 := { stood := { row := unitsDaysRow, standIns := [], harness := (true, "646db80bc40827626b96ce6e23c8598ce8ec7f002105c163dfd08fcb3cbff586"), looks := false }, kinds := [], alts := [], laidByText := true, laidKinds := [.data, .data, .data, .data], laidTests := true, laidLooks := .later }
def UnitsDaysCardSaid : Prop := Claim7.holds Tryd.pinned (.plain (OpenSpec.ofChange unitsDaysSpec)) unitsDaysCard

/-- THE TIED CARD OF 'coupelaw04.UnitsBack'. -/
def unitsBackCard : Claim7 := { stood := { row := unitsBackRow, standIns := [], harness := (true, "646db80bc40827626b96ce6e23c8598ce8ec7f002105c163dfd08fcb3cbff586"), looks := false }, kinds := [], alts := [], laidByText := true, laidKinds := [.data, .data, .data, .data], laidTests := true, laidLooks := .later }
def UnitsBackCardSaid : Prop := Claim7.holds Tryd.pinned (.plain (OpenSpec.ofChange unitsBackSpec)) unitsBackCard

/-- THE TIED CARD OF 'coupelaw04.UnitsBetween'. -/
def unitsBetweenCard : Claim7 := { stood := { row := unitsBetweenRow, standIns := [], harness := (true, "646db80bc40827626b96ce6e23c8598ce8ec7f002105c163dfd08fcb3cbff586"), looks := false }, kinds := [], alts := [], laidByText := true, laidKinds := [.data, .data, .data, .data], laidTests := true, laidLooks := .later }
def UnitsBetweenCardSaid : Prop := Claim7.holds Tryd.pinned (.plain (OpenSpec.ofChange unitsBetweenSpec)) unitsBetweenCard

/-- THE TIED CARD OF 'coupelaw04.UnitsCalendar'. -/
def unitsCalendarCard : Claim7 := { stood := { row := unitsCalendarRow, standIns := [], harness := (true, "646db80bc40827626b96ce6e23c8598ce8ec7f002105c163dfd08fcb3cbff586"), looks := false }, kinds := [], alts := [], laidByText := true, laidKinds := [.data, .data, .data, .data], laidTests := true, laidLooks := .later }
def UnitsCalendarCardSaid : Prop := Claim7.holds Tryd.pinned (.plain (OpenSpec.ofChange unitsCalendarSpec)) unitsCalendarCard

/-- THE SECOND FORM's CARD OF 'coupelaw04.UnitsTexts'. -/
def unitsTextsUptoCard : Claim7 := { stood := { row := unitsTextsUptoRow, standIns := [], harness := (true, "646db80bc40827626b96ce6e23c8598ce8ec7f002105c163dfd08fcb3cbff586"), looks := false }, kinds := [], alts := [], laidByText := true, laidKinds := [.data, .data, .data, .data], laidTests := true, laidLooks := .later }
def UnitsTextsUptoCardSaid : Prop := Claim7.holds Tryd.pinned (.plain (OpenSpec.upto unitsTextsSpec)) unitsTextsUptoCard

/-- THE SECOND FORM's CARD OF 'coupelaw04.UnitsReads'. -/
def unitsReadsUptoCard : Claim7 := { stood := { row := unitsReadsUptoRow, standIns := [], harness := (true, "646db80bc40827626b96ce6e23c8598ce8ec7f002105c163dfd08fcb3cbff586"), looks := false }, kinds := [], alts := [], laidByText := true, laidKinds := [.data, .data, .data, .data], laidTests := true, laidLooks := .later }
def UnitsReadsUptoCardSaid : Prop := Claim7.holds Tryd.pinned (.plain (OpenSpec.upto unitsReadsSpec)) unitsReadsUptoCard

/-- THE SECOND FORM's CARD OF 'coupelaw04.UnitsRounds'. -/
def unitsRoundsUptoCard : Claim7 := { stood := { row := unitsRoundsUptoRow, standIns := [], harness := (true, "646db80bc40827626b96ce6e23c8598ce8ec7f002105c163dfd08fcb3cbff586"), looks := false }, kinds := [], alts := [], laidByText := true, laidKinds := [.data, .data, .data, .data], laidTests := true, laidLooks := .later }
def UnitsRoundsUptoCardSaid : Prop := Claim7.holds Tryd.pinned (.plain (OpenSpec.upto unitsRoundsSpec)) unitsRoundsUptoCard

/-- THE SECOND FORM's CARD OF 'coupelaw04.UnitsAreas'. -/
def unitsAreasUptoCard : Claim7 := { stood := { row := unitsAreasUptoRow, standIns := [], harness := (true, "646db80bc40827626b96ce6e23c8598ce8ec7f002105c163dfd08fcb3cbff586"), looks := false }, kinds := [], alts := [], laidByText := true, laidKinds := [.data, .data, .data, .data], laidTests := true, laidLooks := .later }
def UnitsAreasUptoCardSaid : Prop := Claim7.holds Tryd.pinned (.plain (OpenSpec.upto unitsAreasSpec)) unitsAreasUptoCard

/-- THE SECOND FORM's CARD OF 'coupelaw04.UnitsDays'. -/
def unitsDaysUptoCard : Claim7 := { stood := { row := unitsDaysUptoRow, standIns := [], harness := (true, "646db80bc40827626b96ce6e23c8598ce8ec7f002105c163dfd08fcb3cbff586"), looks := false }, kinds := [], alts := [], laidByText := true, laidKinds := [.data, .data, .data, .data], laidTests := true, laidLooks := .later }
def UnitsDaysUptoCardSaid : Prop := Claim7.holds Tryd.pinned (.plain (OpenSpec.upto unitsDaysSpec)) unitsDaysUptoCard

/-- THE SECOND FORM's CARD OF 'coupelaw04.UnitsBack'. -/
def unitsBackUptoCard : Claim7 := { stood := { row := unitsBackUptoRow, standIns := [], harness := (true, "646db80bc40827626b96ce6e23c8598ce8ec7f002105c163dfd08fcb3cbff586"), looks := false }, kinds := [], alts := [], laidByText := true, laidKinds := [.data, .data, .data, .data], laidTests := true, laidLooks := .later }
def UnitsBackUptoCardSaid : Prop := Claim7.holds Tryd.pinned (.plain (OpenSpec.upto unitsBackSpec)) unitsBackUptoCard

/-- THE SECOND FORM's CARD OF 'coupelaw04.UnitsBetween'. -/
def unitsBetweenUptoCard : Claim7 := { stood := { row := unitsBetweenUptoRow, standIns := [], harness := (true, "646db80bc40827626b96ce6e23c8598ce8ec7f002105c163dfd08fcb3cbff586"), looks := false }, kinds := [], alts := [], laidByText := true, laidKinds := [.data, .data, .data, .data], laidTests := true, laidLooks := .later }
def UnitsBetweenUptoCardSaid : Prop := Claim7.holds Tryd.pinned (.plain (OpenSpec.upto unitsBetweenSpec)) unitsBetweenUptoCard

/-- THE SECOND FORM's CARD OF 'coupelaw04.UnitsCalendar'. -/
def unitsCalendarUptoCard : Claim7 := { stood := { row := unitsCalendarUptoRow, standIns := [], harness := (true, "646db80bc40827626b96ce6e23c8598ce8ec7f002105c163dfd08fcb3cbff586"), looks := false }, kinds := [], alts := [], laidByText := true, laidKinds := [.data, .data, .data, .data], laidTests := true, laidLooks := .later }
def UnitsCalendarUptoCardSaid : Prop := Claim7.holds Tryd.pinned (.plain (OpenSpec.upto unitsCalendarSpec)) unitsCalendarUptoCard
end Rows
end Go.Proofs.YtgfjofdjicepiaaDoor
