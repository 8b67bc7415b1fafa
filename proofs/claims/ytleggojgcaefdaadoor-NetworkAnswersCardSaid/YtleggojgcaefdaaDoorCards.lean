/-
  DERIVED. GIVEN WITH THE SEED: THE CARDS: each row of YtleggojgcaefdaaDoorRows.lean that lists a variable, with what it lists TIED to the program's text (the seventh form; the later family's looks); each row that meets fmt, with fmt's text TOLD by the authors' own Lean function (tested against real Go, not proved from fmt's source: count such statements apart). THE CARD IS WHAT COUNTS. Prove the row's statement (the work); the ties are given (YtleggojgcaefdaaDoorTie.lean); close each card by the builder's one call (the guide's Derived/Test/ToyasCard.lean, 'card_holds'). Laid BY PROGRAM, IN A SANDBOX (cutbox-door.mjs). By AI agents, Wed Nov 11 2026. No macro, syntax, notation, axiom, sorry.
-/
import Derived.Test.YtleggojgcaefdaaDoorRows
import GoSem.ClaimSeven
namespace Go.Proofs.YtleggojgcaefdaaDoor
namespace Rows

/-- THE TIED CARD OF 'permitofficelaw03.NetworkAnswers'. -/
def networkAnswersCard : Claim7 := { stood := { row := networkAnswersRow, standIns := [], harness := (true, "2d69087065495147052436627c05afc8caf1f62eceac6c25424c6228ac114e50"), looks := false }, kinds := [], alts := [], laidByText := true, laidKinds := [.data], laidTests := true, laidLooks := .later }
def NetworkAnswersCardSaid : Prop := Claim7.holds Tryd.pinned (.plain (OpenSpec.ofChange networkAnswersSpec)) networkAnswersCard

/-- THE TIED CARD OF 'permitofficelaw03.NetworkWays'. -/
def networkWaysCard : Claim7 := { stood := { row := networkWaysRow, standIns := [], harness := (true, "2d69087065495147052436627c05afc8caf1f62eceac6c25424c6228ac114e50"), looks := false }, kinds := [], alts := [], laidByText := true, laidKinds := [.data], laidTests := true, laidLooks := .later }
def NetworkWaysCardSaid : Prop := Claim7.holds Tryd.pinned (.plain (OpenSpec.ofChange networkWaysSpec)) networkWaysCard

/-- THE TIED CARD OF 'permitofficelaw03.NetworkLess'. -/
def networkLessCard : Claim7 := { stood := { row := networkLessRow, standIns := [], harness := (true, "2d69087065495147052436627c05afc8caf1f62eceac6c25424c6228ac114e50"), looks := false }, kinds := [], alts := [], laidByText := true, laidKinds := [.data], laidTests := true, laidLooks := .later }
def NetworkLessCardSaid : Prop := Claim7.holds Tryd.pinned (.plain (OpenSpec.ofChange networkLessSpec)) networkLessCard

/-- THE TIED CARD OF 'permitofficelaw03.NetworkAt'. -/
def networkAtCard : Claim7 := { stood := { row := networkAtRow, standIns := [], harness := (true, "2d69087065495147052436627c05afc8caf1f62eceac6c25424c6228ac114e50"), looks := false }, kinds := [], alts := [], laidByText := true, laidKinds := [.data], laidTests := true, laidLooks := .later }
def NetworkAtCardSaid : Prop := Claim7.holds Tryd.pinned (.plain (OpenSpec.ofChange networkAtSpec)) networkAtCard

/-- THE TIED CARD OF 'permitofficelaw03.NetworkLimits'. -/
def networkLimitsCard : Claim7 := { stood := { row := networkLimitsRow, standIns := [], harness := (true, "2d69087065495147052436627c05afc8caf1f62eceac6c25424c6228ac114e50"), looks := false }, kinds := [], alts := [], laidByText := true, laidKinds := [.data], laidTests := true, laidLooks := .later }
def NetworkLimitsCardSaid : Prop := Claim7.holds Tryd.pinned (.plain (OpenSpec.ofChange networkLimitsSpec)) networkLimitsCard

/-- THE TIED CARD OF 'permitofficelaw03.NetworkErrors'. -/
def networkErrorsCard : Claim7 := { stood := { row := networkErrorsRow, standIns := [], harness := (true, "2d69087065495147052436627c05afc8caf1f62eceac6c25424c6228ac114e50"), looks := false }, kinds := [], alts := [], laidByText := true, laidKinds := [.data], laidTests := true, laidLooks := .later }
def NetworkErrorsCardSaid : Prop := Claim7.holds Tryd.pinned (.plain (OpenSpec.ofChange networkErrorsSpec)) networkErrorsCard

/-- THE SECOND FORM's CARD OF 'permitofficelaw03.NetworkAnswers'. -/
def networkAnswersUptoCard : Claim7 := { stood := { row := networkAnswersUptoRow, standIns := [], harness := (true, "2d69087065495147052436627c05afc8caf1f62eceac6c25424c6228ac114e50"), looks := false }, kinds := [], alts := [], laidByText := true, laidKinds := [.data], laidTests := true, laidLooks := .later }
def NetworkAnswersUptoCardSaid : Prop := Claim7.holds Tryd.pinned (.plain (OpenSpec.upto networkAnswersSpec)) networkAnswersUptoCard

/-- THE SECOND FORM's CARD OF 'permitofficelaw03.NetworkWays'. -/
def networkWaysUptoCard : Claim7 := { stood := { row := networkWaysUptoRow, standIns := [], harness := (true, "2d69087065495147052436627c05afc8caf1f62eceac6c25424c6228ac114e50"), looks := false }, kinds := [], alts := [], laidByText := true, laidKinds := [.data], laidTests := true, laidLooks := .later }
def NetworkWaysUptoCardSaid : Prop := Claim7.holds Tryd.pinned (.plain (OpenSpec.upto networkWaysSpec)) networkWaysUptoCard

/-- THE SECOND FORM's CARD OF 'permitofficelaw03.NetworkLess'. -/
def networkLessUptoCard : Claim7 := { stood := { row := networkLessUptoRow, standIns := [], harness := (true, "2d69087065495147052436627c05afc8caf1f62eceac6c25424c6228ac114e50"), looks := false }, kinds := [], alts := [], laidByText := true, laidKinds := [.data], laidTests := true, laidLooks := .later }
def NetworkLessUptoCardSaid : Prop := Claim7.holds Tryd.pinned (.plain (OpenSpec.upto networkLessSpec)) networkLessUptoCard

/-- THE SECOND FORM's CARD OF 'permitofficelaw03.NetworkAt'. -/
def networkAtUptoCard : Claim7 := { stood := { row := networkAtUptoRow, standIns := [], harness := (true, "2d69087065495147052436627c05afc8caf1f62eceac6c25424c6228ac114e50"), looks := false }, kinds := [], alts := [], laidByText := true, laidKinds := [.data], laidTests := true, laidLooks := .later }
def NetworkAtUptoCardSaid : Prop := Claim7.holds Tryd.pinned (.plain (OpenSpec.upto networkAtSpec)) networkAtUptoCard

/-- THE SECOND FORM's CARD OF 'permitofficelaw03.NetworkLimits'. -/
def networkLimitsUptoCard : Claim7 := { stood := { row := networkLimitsUptoRow, standIns := [], harness := (true, "2d69087065495147052436627c05afc8caf1f62eceac6c25424c6228ac114e50"), looks := false }, kinds := [], alts := [], laidByText := true, laidKinds := [.data], laidTests := true, laidLooks := .later }
def NetworkLimitsUptoCardSaid : Prop := Claim7.holds Tryd.pinned (.plain (OpenSpec.upto networkLimitsSpec)) networkLimitsUptoCard

/-- THE SECOND FORM's CARD OF 'permitofficelaw03.NetworkErrors'. -/
def networkErrorsUptoCard : Claim7 := { stood := { row := networkErrorsUptoRow, standIns := [], harness := (true, "2d69087065495147052436627c05afc8caf1f62eceac6c25424c6228ac114e50"), looks := false }, kinds := [], alts := [], laidByText := true, laidKinds := [.data], laidTests := true, laidLooks := .later }
def NetworkErrorsUptoCardSaid : Prop := Claim7.holds Tryd.pinned (.plain (OpenSpec.upto networkErrorsSpec)) networkErrorsUptoCard
end Rows
end Go.Proofs.YtleggojgcaefdaaDoor
