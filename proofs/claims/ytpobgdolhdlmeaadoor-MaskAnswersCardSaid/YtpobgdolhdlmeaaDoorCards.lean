/-
  DERIVED. GIVEN WITH THE SEED: THE CARDS: each row of YtpobgdolhdlmeaaDoorRows.lean that lists a variable, with what it lists TIED to the program's text (the seventh form; the later family's looks); each row that meets fmt, with fmt's text TOLD by the authors' own Lean function (tested against real Go, not proved from fmt's source: count such statements apart). THE CARD IS WHAT COUNTS. Prove the row's statement (the work); the ties are given (YtpobgdolhdlmeaaDoorTie.lean); close each card by the builder's one call (the guide's Derived/Test/ToyasCard.lean, 'card_holds'). Laid BY PROGRAM, IN A SANDBOX (cutbox-door.mjs). By AI agents, Wed Nov 11 2026. No macro, syntax, notation, axiom, sorry.
-/
import Derived.Test.YtpobgdolhdlmeaaDoorRows
import GoSem.ClaimSeven
namespace Go.Proofs.YtpobgdolhdlmeaaDoor
namespace Rows

/-- THE TIED CARD OF 'permitofficelaw06.MaskAnswers'. -/
def maskAnswersCard : Claim7 := { stood := { row := maskAnswersRow, standIns := [], harness := (true, "9f611da4c6651b1a1001d76f54a0a5f2c37b9d6d169a16985e423e84e71d14bd"), looks := false }, kinds := [], alts := [], laidByText := true, laidKinds := [.data, .data], laidTests := true, laidLooks := .later }
def MaskAnswersCardSaid : Prop := Claim7.holds Tryd.pinned (.plain (OpenSpec.ofChange maskAnswersSpec)) maskAnswersCard

/-- THE TIED CARD OF 'permitofficelaw06.MaskStates'. -/
def maskStatesCard : Claim7 := { stood := { row := maskStatesRow, standIns := [], harness := (true, "9f611da4c6651b1a1001d76f54a0a5f2c37b9d6d169a16985e423e84e71d14bd"), looks := false }, kinds := [], alts := [], laidByText := true, laidKinds := [.data, .data], laidTests := true, laidLooks := .later }
def MaskStatesCardSaid : Prop := Claim7.holds Tryd.pinned (.plain (OpenSpec.ofChange maskStatesSpec)) maskStatesCard

/-- THE TIED CARD OF 'permitofficelaw06.MaskMeets'. -/
def maskMeetsCard : Claim7 := { stood := { row := maskMeetsRow, standIns := [], harness := (true, "9f611da4c6651b1a1001d76f54a0a5f2c37b9d6d169a16985e423e84e71d14bd"), looks := false }, kinds := [], alts := [], laidByText := true, laidKinds := [.data], laidTests := true, laidLooks := .later }
def MaskMeetsCardSaid : Prop := Claim7.holds Tryd.pinned (.plain (OpenSpec.ofChange maskMeetsSpec)) maskMeetsCard

/-- THE TIED CARD OF 'permitofficelaw06.MaskLimit'. -/
def maskLimitCard : Claim7 := { stood := { row := maskLimitRow, standIns := [], harness := (true, "9f611da4c6651b1a1001d76f54a0a5f2c37b9d6d169a16985e423e84e71d14bd"), looks := false }, kinds := [], alts := [], laidByText := true, laidKinds := [.data], laidTests := true, laidLooks := .later }
def MaskLimitCardSaid : Prop := Claim7.holds Tryd.pinned (.plain (OpenSpec.ofChange maskLimitSpec)) maskLimitCard

/-- THE SECOND FORM's CARD OF 'permitofficelaw06.MaskAnswers'. -/
def maskAnswersUptoCard : Claim7 := { stood := { row := maskAnswersUptoRow, standIns := [], harness := (true, "9f611da4c6651b1a1001d76f54a0a5f2c37b9d6d169a16985e423e84e71d14bd"), looks := false }, kinds := [], alts := [], laidByText := true, laidKinds := [.data, .data], laidTests := true, laidLooks := .later }
def MaskAnswersUptoCardSaid : Prop := Claim7.holds Tryd.pinned (.plain (OpenSpec.upto maskAnswersSpec)) maskAnswersUptoCard

/-- THE SECOND FORM's CARD OF 'permitofficelaw06.MaskStates'. -/
def maskStatesUptoCard : Claim7 := { stood := { row := maskStatesUptoRow, standIns := [], harness := (true, "9f611da4c6651b1a1001d76f54a0a5f2c37b9d6d169a16985e423e84e71d14bd"), looks := false }, kinds := [], alts := [], laidByText := true, laidKinds := [.data, .data], laidTests := true, laidLooks := .later }
def MaskStatesUptoCardSaid : Prop := Claim7.holds Tryd.pinned (.plain (OpenSpec.upto maskStatesSpec)) maskStatesUptoCard

/-- THE SECOND FORM's CARD OF 'permitofficelaw06.MaskMeets'. -/
def maskMeetsUptoCard : Claim7 := { stood := { row := maskMeetsUptoRow, standIns := [], harness := (true, "9f611da4c6651b1a1001d76f54a0a5f2c37b9d6d169a16985e423e84e71d14bd"), looks := false }, kinds := [], alts := [], laidByText := true, laidKinds := [.data], laidTests := true, laidLooks := .later }
def MaskMeetsUptoCardSaid : Prop := Claim7.holds Tryd.pinned (.plain (OpenSpec.upto maskMeetsSpec)) maskMeetsUptoCard

/-- THE SECOND FORM's CARD OF 'permitofficelaw06.MaskLimit'. -/
def maskLimitUptoCard : Claim7 := { stood := { row := maskLimitUptoRow, standIns := [], harness := (true, "9f611da4c6651b1a1001d76f54a0a5f2c37b9d6d169a16985e423e84e71d14bd"), looks := false }, kinds := [], alts := [], laidByText := true, laidKinds := [.data], laidTests := true, laidLooks := .later }
def MaskLimitUptoCardSaid : Prop := Claim7.holds Tryd.pinned (.plain (OpenSpec.upto maskLimitSpec)) maskLimitUptoCard
end Rows
end Go.Proofs.YtpobgdolhdlmeaaDoor
