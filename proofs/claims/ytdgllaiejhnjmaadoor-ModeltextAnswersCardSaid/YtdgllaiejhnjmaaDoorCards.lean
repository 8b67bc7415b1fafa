/-
  DERIVED. GIVEN WITH THE SEED: THE CARDS: each row of YtdgllaiejhnjmaaDoorRows.lean that lists a variable, with what it lists TIED to the program's text (the seventh form; the later family's looks); each row that meets fmt, with fmt's text TOLD by the authors' own Lean function (tested against real Go, not proved from fmt's source: count such statements apart). THE CARD IS WHAT COUNTS. Prove the row's statement (the work); the ties are given (YtdgllaiejhnjmaaDoorTie.lean); close each card by the builder's one call (the guide's Derived/Test/ToyasCard.lean, 'card_holds'). Laid BY PROGRAM, IN A SANDBOX (cutbox-door.mjs). By AI agents, Wed Nov 11 2026. No macro, syntax, notation, axiom, sorry.
-/
import Derived.Test.YtdgllaiejhnjmaaDoorRows
import GoSem.ClaimSeven
namespace Go.Proofs.YtdgllaiejhnjmaaDoor
namespace Rows

/-- THE TIED CARD OF 'permitofficelaw04.ModeltextAnswers'. -/
def modeltextAnswersCard : Claim7 := { stood := { row := modeltextAnswersRow, standIns := [], harness := (true, "07bc644ecc44095c2d2691344707d132355d4e84d743733689127c9af5e4b0db"), looks := false }, kinds := [], alts := [], laidByText := true, laidKinds := [.data, .data, .data, .data, .data], laidTests := true, laidLooks := .later }
def ModeltextAnswersCardSaid : Prop := Claim7.holds Tryd.pinned (.plain (OpenSpec.ofChange modeltextAnswersSpec)) modeltextAnswersCard

/-- THE TIED CARD OF 'permitofficelaw04.ModeltextReturns'. -/
def modeltextReturnsCard : Claim7 := { stood := { row := modeltextReturnsRow, standIns := [], harness := (true, "07bc644ecc44095c2d2691344707d132355d4e84d743733689127c9af5e4b0db"), looks := false }, kinds := [], alts := [], laidByText := true, laidKinds := [.data, .data, .data, .data, .data], laidTests := true, laidLooks := .later }
def ModeltextReturnsCardSaid : Prop := Claim7.holds Tryd.pinned (.plain (OpenSpec.ofChange modeltextReturnsSpec)) modeltextReturnsCard

/-- THE TIED CARD OF 'permitofficelaw04.ModeltextLines'. -/
def modeltextLinesCard : Claim7 := { stood := { row := modeltextLinesRow, standIns := [], harness := (true, "07bc644ecc44095c2d2691344707d132355d4e84d743733689127c9af5e4b0db"), looks := false }, kinds := [], alts := [], laidByText := true, laidKinds := [.data, .data, .data, .data, .data], laidTests := true, laidLooks := .later }
def ModeltextLinesCardSaid : Prop := Claim7.holds Tryd.pinned (.plain (OpenSpec.ofChange modeltextLinesSpec)) modeltextLinesCard

/-- THE TIED CARD OF 'permitofficelaw04.ModeltextErrors'. -/
def modeltextErrorsCard : Claim7 := { stood := { row := modeltextErrorsRow, standIns := [], harness := (true, "07bc644ecc44095c2d2691344707d132355d4e84d743733689127c9af5e4b0db"), looks := false }, kinds := [], alts := [], laidByText := true, laidKinds := [.data], laidTests := true, laidLooks := .later }
def ModeltextErrorsCardSaid : Prop := Claim7.holds Tryd.pinned (.plain (OpenSpec.ofChange modeltextErrorsSpec)) modeltextErrorsCard

/-- THE SECOND FORM's CARD OF 'permitofficelaw04.ModeltextAnswers'. -/
def modeltextAnswersUptoCard : Claim7 := { stood := { row := modeltextAnswersUptoRow, standIns := [], harness := (true, "07bc644ecc44095c2d2691344707d132355d4e84d743733689127c9af5e4b0db"), looks := false }, kinds := [], alts := [], laidByText := true, laidKinds := [.data, .data, .data, .data, .data], laidTests := true, laidLooks := .later }
def ModeltextAnswersUptoCardSaid : Prop := Claim7.holds Tryd.pinned (.plain (OpenSpec.upto modeltextAnswersSpec)) modeltextAnswersUptoCard

/-- THE SECOND FORM's CARD OF 'permitofficelaw04.ModeltextReturns'. -/
def modeltextReturnsUptoCard : Claim7 := { stood := { row := modeltextReturnsUptoRow, standIns := [], harness := (true, "07bc644ecc44095c2d2691344707d132355d4e84d743733689127c9af5e4b0db"), looks := false }, kinds := [], alts := [], laidByText := true, laidKinds := [.data, .data, .data, .data, .data], laidTests := true, laidLooks := .later }
def ModeltextReturnsUptoCardSaid : Prop := Claim7.holds Tryd.pinned (.plain (OpenSpec.upto modeltextReturnsSpec)) modeltextReturnsUptoCard

/-- THE SECOND FORM's CARD OF 'permitofficelaw04.ModeltextLines'. -/
def modeltextLinesUptoCard : Claim7 := { stood := { row := modeltextLinesUptoRow, standIns := [], harness := (true, "07bc644ecc44095c2d2691344707d132355d4e84d743733689127c9af5e4b0db"), looks := false }, kinds := [], alts := [], laidByText := true, laidKinds := [.data, .data, .data, .data, .data], laidTests := true, laidLooks := .later }
def ModeltextLinesUptoCardSaid : Prop := Claim7.holds Tryd.pinned (.plain (OpenSpec.upto modeltextLinesSpec)) modeltextLinesUptoCard

/-- THE SECOND FORM's CARD OF 'permitofficelaw04.ModeltextErrors'. -/
def modeltextErrorsUptoCard : Claim7 := { stood := { row := modeltextErrorsUptoRow, standIns := [], harness := (true, "07bc644ecc44095c2d2691344707d132355d4e84d743733689127c9af5e4b0db"), looks := false }, kinds := [], alts := [], laidByText := true, laidKinds := [.data], laidTests := true, laidLooks := .later }
def ModeltextErrorsUptoCardSaid : Prop := Claim7.holds Tryd.pinned (.plain (OpenSpec.upto modeltextErrorsSpec)) modeltextErrorsUptoCard
end Rows
end Go.Proofs.YtdgllaiejhnjmaaDoor
