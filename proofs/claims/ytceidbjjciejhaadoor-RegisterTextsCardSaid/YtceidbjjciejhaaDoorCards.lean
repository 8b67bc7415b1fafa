/-
  DERIVED. GIVEN WITH THE SEED: THE CARDS: each row of YtceidbjjciejhaaDoorRows.lean that lists a variable, with what it lists TIED to the program's text (the seventh form; the later family's looks); each row that meets fmt, with fmt's text TOLD by the authors' own Lean function (tested against real Go, not proved from fmt's source: count such statements apart). THE CARD IS WHAT COUNTS. Prove the row's statement (the work); the ties are given (YtceidbjjciejhaaDoorTie.lean); close each card by the builder's one call (the guide's Derived/Test/ToyasCard.lean, 'card_holds'). Laid BY PROGRAM, IN A SANDBOX (cutbox-door.mjs). By AI agents, Wed Nov 11 2026. No macro, syntax, notation, axiom, sorry.
-/
import Derived.Test.YtceidbjjciejhaaDoorRows
import GoSem.ClaimSeven
namespace Go.Proofs.YtceidbjjciejhaaDoor
namespace Rows

/-- THE TIED CARD OF 'permitofficelaw05.RegisterCan'. -/
def registerCanCard : Claim7 := { stood := { row := registerCanRow, standIns := [], harness := (true, "66d74d90b03cc615e11fcc1e07c00aa67ba363ce17db3ac28470d85081beb69e"), looks := false }, kinds := [], alts := [], laidByText := true, laidKinds := [.data], laidTests := true, laidLooks := .later }
def RegisterCanCardSaid : Prop := Claim7.holds Tryd.pinned (.plain (OpenSpec.ofChange registerCanSpec)) registerCanCard

/-- THE TIED CARD OF 'permitofficelaw05.RegisterBack'. -/
def registerBackCard : Claim7 := { stood := { row := registerBackRow, standIns := [], harness := (true, "66d74d90b03cc615e11fcc1e07c00aa67ba363ce17db3ac28470d85081beb69e"), looks := false }, kinds := [], alts := [], laidByText := true, laidKinds := [.data], laidTests := true, laidLooks := .later }
def RegisterBackCardSaid : Prop := Claim7.holds Tryd.pinned (.plain (OpenSpec.ofChange registerBackSpec)) registerBackCard

/-- THE TIED CARD OF 'permitofficelaw05.RegisterTexts'. -/
def registerTextsCard : Claim7 := { stood := { row := registerTextsRow, standIns := [], harness := (true, "66d74d90b03cc615e11fcc1e07c00aa67ba363ce17db3ac28470d85081beb69e"), looks := false }, kinds := [], alts := [], laidByText := true, laidKinds := [.data, .data, .data, .data, .data], laidTests := true, laidLooks := .later }
def RegisterTextsCardSaid : Prop := Claim7.holds Tryd.pinned (.plain (OpenSpec.ofChange registerTextsSpec)) registerTextsCard

/-- THE TIED CARD OF 'permitofficelaw05.RegisterLimit'. -/
def registerLimitCard : Claim7 := { stood := { row := registerLimitRow, standIns := [], harness := (true, "66d74d90b03cc615e11fcc1e07c00aa67ba363ce17db3ac28470d85081beb69e"), looks := false }, kinds := [], alts := [], laidByText := true, laidKinds := [.data], laidTests := true, laidLooks := .later }
def RegisterLimitCardSaid : Prop := Claim7.holds Tryd.pinned (.plain (OpenSpec.ofChange registerLimitSpec)) registerLimitCard

/-- THE SECOND FORM's CARD OF 'permitofficelaw05.RegisterCan'. -/
def registerCanUptoCard : Claim7 := { stood := { row := registerCanUptoRow, standIns := [], harness := (true, "66d74d90b03cc615e11fcc1e07c00aa67ba363ce17db3ac28470d85081beb69e"), looks := false }, kinds := [], alts := [], laidByText := true, laidKinds := [.data], laidTests := true, laidLooks := .later }
def RegisterCanUptoCardSaid : Prop := Claim7.holds Tryd.pinned (.plain (OpenSpec.upto registerCanSpec)) registerCanUptoCard

/-- THE SECOND FORM's CARD OF 'permitofficelaw05.RegisterBack'. -/
def registerBackUptoCard : Claim7 := { stood := { row := registerBackUptoRow, standIns := [], harness := (true, "66d74d90b03cc615e11fcc1e07c00aa67ba363ce17db3ac28470d85081beb69e"), looks := false }, kinds := [], alts := [], laidByText := true, laidKinds := [.data], laidTests := true, laidLooks := .later }
def RegisterBackUptoCardSaid : Prop := Claim7.holds Tryd.pinned (.plain (OpenSpec.upto registerBackSpec)) registerBackUptoCard

/-- THE SECOND FORM's CARD OF 'permitofficelaw05.RegisterTexts'. -/
def registerTextsUptoCard : Claim7 := { stood := { row := registerTextsUptoRow, standIns := [], harness := (true, "66d74d90b03cc615e11fcc1e07c00aa67ba363ce17db3ac28470d85081beb69e"), looks := false }, kinds := [], alts := [], laidByText := true, laidKinds := [.data, .data, .data, .data, .data], laidTests := true, laidLooks := .later }
def RegisterTextsUptoCardSaid : Prop := Claim7.holds Tryd.pinned (.plain (OpenSpec.upto registerTextsSpec)) registerTextsUptoCard

/-- THE SECOND FORM's CARD OF 'permitofficelaw05.RegisterLimit'. -/
def registerLimitUptoCard : Claim7 := { stood := { row := registerLimitUptoRow, standIns := [], harness := (true, "66d74d90b03cc615e11fcc1e07c00aa67ba363ce17db3ac28470d85081beb69e"), looks := false }, kinds := [], alts := [], laidByText := true, laidKinds := [.data], laidTests := true, laidLooks := .later }
def RegisterLimitUptoCardSaid : Prop := Claim7.holds Tryd.pinned (.plain (OpenSpec.upto registerLimitSpec)) registerLimitUptoCard
end Rows
end Go.Proofs.YtceidbjjciejhaaDoor
