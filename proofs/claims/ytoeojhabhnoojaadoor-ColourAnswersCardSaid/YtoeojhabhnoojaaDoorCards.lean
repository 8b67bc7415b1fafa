/-
  DERIVED. GIVEN WITH THE SEED: THE CARDS: each row of YtoeojhabhnoojaaDoorRows.lean that lists a variable, with what it lists TIED to the program's text (the seventh form; the later family's looks); each row that meets fmt, with fmt's text TOLD by the authors' own Lean function (tested against real Go, not proved from fmt's source: count such statements apart). THE CARD IS WHAT COUNTS. Prove the row's statement (the work); the ties are given (YtoeojhabhnoojaaDoorTie.lean); close each card by the builder's one call (the guide's Derived/Test/ToyasCard.lean, 'card_holds'). Laid BY PROGRAM, IN A SANDBOX (cutbox-door.mjs). By AI agents, Wed Nov 11 2026. No macro, syntax, notation, axiom, sorry.
-/
import Derived.Test.YtoeojhabhnoojaaDoorRows
import GoSem.ClaimSeven
namespace Go.Proofs.YtoeojhabhnoojaaDoor
namespace Rows

/-- THE TIED CARD OF 'permitofficelaw07.ColourAnswers'. -/
def colourAnswersCard : Claim7 := { stood := { row := colourAnswersRow, standIns := [], harness := (true, "bdb38491b620ab7f4e69dc2ae21aaf02bf0fbe3a0963a635fbbd3b24cbc1e87c"), looks := false }, kinds := [], alts := [], laidByText := true, laidKinds := [.data, .data], laidTests := true, laidLooks := .later }
def ColourAnswersCardSaid : Prop := Claim7.holds Tryd.pinned (.plain (OpenSpec.ofChange colourAnswersSpec)) colourAnswersCard

/-- THE TIED CARD OF 'permitofficelaw07.ColourShades'. -/
def colourShadesCard : Claim7 := { stood := { row := colourShadesRow, standIns := [], harness := (true, "bdb38491b620ab7f4e69dc2ae21aaf02bf0fbe3a0963a635fbbd3b24cbc1e87c"), looks := false }, kinds := [], alts := [], laidByText := true, laidKinds := [.data, .data], laidTests := true, laidLooks := .later }
def ColourShadesCardSaid : Prop := Claim7.holds Tryd.pinned (.plain (OpenSpec.ofChange colourShadesSpec)) colourShadesCard

/-- THE TIED CARD OF 'permitofficelaw07.ColourGrows'. -/
def colourGrowsCard : Claim7 := { stood := { row := colourGrowsRow, standIns := [], harness := (true, "bdb38491b620ab7f4e69dc2ae21aaf02bf0fbe3a0963a635fbbd3b24cbc1e87c"), looks := false }, kinds := [], alts := [], laidByText := true, laidKinds := [.data, .data], laidTests := true, laidLooks := .later }
def ColourGrowsCardSaid : Prop := Claim7.holds Tryd.pinned (.plain (OpenSpec.ofChange colourGrowsSpec)) colourGrowsCard

/-- THE TIED CARD OF 'permitofficelaw07.ColourParts'. -/
def colourPartsCard : Claim7 := { stood := { row := colourPartsRow, standIns := [], harness := (true, "bdb38491b620ab7f4e69dc2ae21aaf02bf0fbe3a0963a635fbbd3b24cbc1e87c"), looks := false }, kinds := [], alts := [], laidByText := true, laidKinds := [.data, .data], laidTests := true, laidLooks := .later }
def ColourPartsCardSaid : Prop := Claim7.holds Tryd.pinned (.plain (OpenSpec.ofChange colourPartsSpec)) colourPartsCard

/-- THE TIED CARD OF 'permitofficelaw07.ColourSources'. -/
def colourSourcesCard : Claim7 := { stood := { row := colourSourcesRow, standIns := [], harness := (true, "bdb38491b620ab7f4e69dc2ae21aaf02bf0fbe3a0963a635fbbd3b24cbc1e87c"), looks := false }, kinds := [], alts := [], laidByText := true, laidKinds := [.data, .data], laidTests := true, laidLooks := .later }
def ColourSourcesCardSaid : Prop := Claim7.holds Tryd.pinned (.plain (OpenSpec.ofChange colourSourcesSpec)) colourSourcesCard

/-- THE SECOND FORM's CARD OF 'permitofficelaw07.ColourAnswers'. -/
def colourAnswersUptoCard : Claim7 := { stood := { row := colourAnswersUptoRow, standIns := [], harness := (true, "bdb38491b620ab7f4e69dc2ae21aaf02bf0fbe3a0963a635fbbd3b24cbc1e87c"), looks := false }, kinds := [], alts := [], laidByText := true, laidKinds := [.data, .data], laidTests := true, laidLooks := .later }
def ColourAnswersUptoCardSaid : Prop := Claim7.holds Tryd.pinned (.plain (OpenSpec.upto colourAnswersSpec)) colourAnswersUptoCard

/-- THE SECOND FORM's CARD OF 'permitofficelaw07.ColourShades'. -/
def colourShadesUptoCard : Claim7 := { stood := { row := colourShadesUptoRow, standIns := [], harness := (true, "bdb38491b620ab7f4e69dc2ae21aaf02bf0fbe3a0963a635fbbd3b24cbc1e87c"), looks := false }, kinds := [], alts := [], laidByText := true, laidKinds := [.data, .data], laidTests := true, laidLooks := .later }
def ColourShadesUptoCardSaid : Prop := Claim7.holds Tryd.pinned (.plain (OpenSpec.upto colourShadesSpec)) colourShadesUptoCard

/-- THE SECOND FORM's CARD OF 'permitofficelaw07.ColourGrows'. -/
def colourGrowsUptoCard : Claim7 := { stood := { row := colourGrowsUptoRow, standIns := [], harness := (true, "bdb38491b620ab7f4e69dc2ae21aaf02bf0fbe3a0963a635fbbd3b24cbc1e87c"), looks := false }, kinds := [], alts := [], laidByText := true, laidKinds := [.data, .data], laidTests := true, laidLooks := .later }
def ColourGrowsUptoCardSaid : Prop := Claim7.holds Tryd.pinned (.plain (OpenSpec.upto colourGrowsSpec)) colourGrowsUptoCard

/-- THE SECOND FORM's CARD OF 'permitofficelaw07.ColourParts'. -/
def colourPartsUptoCard : Claim7 := { stood := { row := colourPartsUptoRow, standIns := [], harness := (true, "bdb38491b620ab7f4e69dc2ae21aaf02bf0fbe3a0963a635fbbd3b24cbc1e87c"), looks := false }, kinds := [], alts := [], laidByText := true, laidKinds := [.data, .data], laidTests := true, laidLooks := .later }
def ColourPartsUptoCardSaid : Prop := Claim7.holds Tryd.pinned (.plain (OpenSpec.upto colourPartsSpec)) colourPartsUptoCard

/-- THE SECOND FORM's CARD OF 'permitofficelaw07.ColourSources'. -/
def colourSourcesUptoCard : Claim7 := { stood := { row := colourSourcesUptoRow, standIns := [], harness := (true, "bdb38491b620ab7f4e69dc2ae21aaf02bf0fbe3a0963a635fbbd3b24cbc1e87c"), looks := false }, kinds := [], alts := [], laidByText := true, laidKinds := [.data, .data], laidTests := true, laidLooks := .later }
def ColourSourcesUptoCardSaid : Prop := Claim7.holds Tryd.pinned (.plain (OpenSpec.upto colourSourcesSpec)) colourSourcesUptoCard
end Rows
end Go.Proofs.YtoeojhabhnoojaaDoor
