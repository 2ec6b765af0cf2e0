/-
  DERIVED. GIVEN WITH THE SEED: THE CARDS: each row of YtjbnejhpfknfcaaDoorRows.lean that lists a variable, with what it lists TIED to the program's text (the seventh form; the later family's looks); each row that meets fmt, with fmt's text TOLD by the authors' own Lean function (tested against real Go, not proved from fmt's source: count such statements apart). THE CARD IS WHAT COUNTS. Prove the row's statement (the work); the ties are given (YtjbnejhpfknfcaaDoorTie.lean); close each card by the builder's one call (the guide's Derived/Test/ToyasCard.lean, 'card_holds'). Laid BY PROGRAM, IN A SANDBOX (cutbox-door.mjs). By AI agents, Wed Nov 11 2026. No macro, syntax, notation, axiom, sorry.
-/
import Derived.Test.YtjbnejhpfknfcaaDoorRows
import GoSem.ClaimSeven
namespace Go.Proofs.YtjbnejhpfknfcaaDoor
namespace Rows

/-- THE TIED CARD OF 'coupelaw02.FractionNews'. -/
def fractionNewsCard : Claim7 := { stood := { row := fractionNewsRow, standIns := [], harness := (true, "93529d4bc1d951c3f215c1686b45a11d67990967bae4d483d5733b83600fbe2e"), looks := false }, kinds := [], alts := [], laidByText := true, laidKinds := [.data, .data, .data], laidTests := true, laidLooks := .later }
def FractionNewsCardSaid : Prop := Claim7.holds Tryd.pinned (.plain (OpenSpec.ofChange fractionNewsSpec)) fractionNewsCard

/-- THE TIED CARD OF 'coupelaw02.FractionCounts'. -/
def fractionCountsCard : Claim7 := { stood := { row := fractionCountsRow, standIns := [], harness := (true, "93529d4bc1d951c3f215c1686b45a11d67990967bae4d483d5733b83600fbe2e"), looks := false }, kinds := [], alts := [], laidByText := true, laidKinds := [.data, .data, .data], laidTests := true, laidLooks := .later }
def FractionCountsCardSaid : Prop := Claim7.holds Tryd.pinned (.plain (OpenSpec.ofChange fractionCountsSpec)) fractionCountsCard

/-- THE TIED CARD OF 'coupelaw02.FractionRounds'. -/
def fractionRoundsCard : Claim7 := { stood := { row := fractionRoundsRow, standIns := [], harness := (true, "93529d4bc1d951c3f215c1686b45a11d67990967bae4d483d5733b83600fbe2e"), looks := false }, kinds := [], alts := [], laidByText := true, laidKinds := [.data, .data, .data], laidTests := true, laidLooks := .later }
def FractionRoundsCardSaid : Prop := Claim7.holds Tryd.pinned (.plain (OpenSpec.ofChange fractionRoundsSpec)) fractionRoundsCard

/-- THE TIED CARD OF 'coupelaw02.FractionTexts'. -/
def fractionTextsCard : Claim7 := { stood := { row := fractionTextsRow, standIns := [], harness := (true, "93529d4bc1d951c3f215c1686b45a11d67990967bae4d483d5733b83600fbe2e"), looks := false }, kinds := [], alts := [], laidByText := true, laidKinds := [.data, .data, .data], laidTests := true, laidLooks := .later }
def FractionTextsCardSaid : Prop := Claim7.holds Tryd.pinned (.plain (OpenSpec.ofChange fractionTextsSpec)) fractionTextsCard

/-- THE TIED CARD OF 'coupelaw02.FractionSums'. -/
def fractionSumsCard : Claim7 := { stood := { row := fractionSumsRow, standIns := [], harness := (true, "93529d4bc1d951c3f215c1686b45a11d67990967bae4d483d5733b83600fbe2e"), looks := false }, kinds := [], alts := [], laidByText := true, laidKinds := [.data, .data, .data], laidTests := true, laidLooks := .later }
def FractionSumsCardSaid : Prop := Claim7.holds Tryd.pinned (.plain (OpenSpec.ofChange fractionSumsSpec)) fractionSumsCard

/-- THE TIED CARD OF 'coupelaw02.FractionLaws'. -/
def fractionLawsCard : Claim7 := { stood := { row := fractionLawsRow, standIns := [], harness := (true, "93529d4bc1d951c3f215c1686b45a11d67990967bae4d483d5733b83600fbe2e"), looks := false }, kinds := [], alts := [], laidByText := true, laidKinds := [.data, .data, .data], laidTests := true, laidLooks := .later }
def FractionLawsCardSaid : Prop := Claim7.holds Tryd.pinned (.plain (OpenSpec.ofChange fractionLawsSpec)) fractionLawsCard

/-- THE TIED CARD OF 'coupelaw02.FractionOrders'. -/
def fractionOrdersCard : Claim7 := { stood := { row := fractionOrdersRow, standIns := [], harness := (true, "93529d4bc1d951c3f215c1686b45a11d67990967bae4d483d5733b83600fbe2e"), looks := false }, kinds := [], alts := [], laidByText := true, laidKinds := [.data, .data, .data], laidTests := true, laidLooks := .later }
def FractionOrdersCardSaid : Prop := Claim7.holds Tryd.pinned (.plain (OpenSpec.ofChange fractionOrdersSpec)) fractionOrdersCard

/-- THE TIED CARD OF 'coupelaw02.FractionLimits'. -/
def fractionLimitsCard : Claim7 := { stood := { row := fractionLimitsRow, standIns := [], harness := (true, "93529d4bc1d951c3f215c1686b45a11d67990967bae4d483d5733b83600fbe2e"), looks := false }, kinds := [], alts := [], laidByText := true, laidKinds := [.data, .data, .data], laidTests := true, laidLooks := .later }
def FractionLimitsCardSaid : Prop := Claim7.holds Tryd.pinned (.plain (OpenSpec.ofChange fractionLimitsSpec)) fractionLimitsCard

/-- THE SECOND FORM's CARD OF 'coupelaw02.FractionNews'. -/
def fractionNewsUptoCard : Claim7 := { stood := { row := fractionNewsUptoRow, standIns := [], harness := (true, "93529d4bc1d951c3f215c1686b45a11d67990967bae4d483d5733b83600fbe2e"), looks := false }, kinds := [], alts := [], laidByText := true, laidKinds := [.data, .data, .data], laidTests := true, laidLooks := .later }
def FractionNewsUptoCardSaid : Prop := Claim7.holds Tryd.pinned (.plain (OpenSpec.upto fractionNewsSpec)) fractionNewsUptoCard

/-- THE SECOND FORM's CARD OF 'coupelaw02.FractionCounts'. -/
def fractionCountsUptoCard : Claim7 := { stood := { row := fractionCountsUptoRow, standIns := [], harness := (true, "93529d4bc1d951c3f215c1686b45a11d67990967bae4d483d5733b83600fbe2e"), looks := false }, kinds := [], alts := [], laidByText := true, laidKinds := [.data, .data, .data], laidTests := true, laidLooks := .later }
def FractionCountsUptoCardSaid : Prop := Claim7.holds Tryd.pinned (.plain (OpenSpec.upto fractionCountsSpec)) fractionCountsUptoCard

/-- THE SECOND FORM's CARD OF 'coupelaw02.FractionRounds'. -/
def fractionRoundsUptoCard : Claim7 := { stood := { row := fractionRoundsUptoRow, standIns := [], harness := (true, "93529d4bc1d951c3f215c1686b45a11d67990967bae4d483d5733b83600fbe2e"), looks := false }, kinds := [], alts := [], laidByText := true, laidKinds := [.data, .data, .data], laidTests := true, laidLooks := .later }
def FractionRoundsUptoCardSaid : Prop := Claim7.holds Tryd.pinned (.plain (OpenSpec.upto fractionRoundsSpec)) fractionRoundsUptoCard

/-- THE SECOND FORM's CARD OF 'coupelaw02.FractionTexts'. -/
def fractionTextsUptoCard : Claim7 := { stood := { row := fractionTextsUptoRow, standIns := [], harness := (true, "93529d4bc1d951c3f215c1686b45a11d67990967bae4d483d5733b83600fbe2e"), looks := false }, kinds := [], alts := [], laidByText := true, laidKinds := [.data, .data, .data], laidTests := true, laidLooks := .later }
def FractionTextsUptoCardSaid : Prop := Claim7.holds Tryd.pinned (.plain (OpenSpec.upto fractionTextsSpec)) fractionTextsUptoCard

/-- THE SECOND FORM's CARD OF 'coupelaw02.FractionSums'. -/
def fractionSumsUptoCard : Claim7 := { stood := { row := fractionSumsUptoRow, standIns := [], harness := (true, "93529d4bc1d951c3f215c1686b45a11d67990967bae4d483d5733b83600fbe2e"), looks := false }, kinds := [], alts := [], laidByText := true, laidKinds := [.data, .data, .data], laidTests := true, laidLooks := .later }
def FractionSumsUptoCardSaid : Prop := Claim7.holds Tryd.pinned (.plain (OpenSpec.upto fractionSumsSpec)) fractionSumsUptoCard

/-- THE SECOND FORM's CARD OF 'coupelaw02.FractionLaws'. -/
def fractionLawsUptoCard : Claim7 := { stood := { row := fractionLawsUptoRow, standIns := [], harness := (true, "93529d4bc1d951c3f215c1686b45a11d67990967bae4d483d5733b83600fbe2e"), looks := false }, kinds := [], alts := [], laidByText := true, laidKinds := [.data, .data, .data], laidTests := true, laidLooks := .later }
def FractionLawsUptoCardSaid : Prop := Claim7.holds Tryd.pinned (.plain (OpenSpec.upto fractionLawsSpec)) fractionLawsUptoCard

/-- THE SECOND FORM's CARD OF 'coupelaw02.FractionOrders'. -/
def fractionOrdersUptoCard : Claim7 := { stood := { row := fractionOrdersUptoRow, standIns := [], harness := (true, "93529d4bc1d951c3f215c1686b45a11d67990967bae4d483d5733b83600fbe2e"), looks := false }, kinds := [], alts := [], laidByText := true, laidKinds := [.data, .data, .data], laidTests := true, laidLooks := .later }
def FractionOrdersUptoCardSaid : Prop := Claim7.holds Tryd.pinned (.plain (OpenSpec.upto fractionOrdersSpec)) fractionOrdersUptoCard

/-- THE SECOND FORM's CARD OF 'coupelaw02.FractionLimits'. -/
def fractionLimitsUptoCard : Claim7 := { stood := { row := fractionLimitsUptoRow, standIns := [], harness := (true, "93529d4bc1d951c3f215c1686b45a11d67990967bae4d483d5733b83600fbe2e"), looks := false }, kinds := [], alts := [], laidByText := true, laidKinds := [.data, .data, .data], laidTests := true, laidLooks := .later }
def FractionLimitsUptoCardSaid : Prop := Claim7.holds Tryd.pinned (.plain (OpenSpec.upto fractionLimitsSpec)) fractionLimitsUptoCard
end Rows
end Go.Proofs.YtjbnejhpfknfcaaDoor
