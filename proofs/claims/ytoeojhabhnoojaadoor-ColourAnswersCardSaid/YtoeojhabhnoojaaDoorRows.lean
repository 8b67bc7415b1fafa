/-
  NARROWER THAN 'FOR EVERY INPUT', by the rows' own cells (each row's printed sentence says how): ColourAnswers: laid · ColourShades: laid · ColourGrows: laid · ColourParts: laid · ColourSources: laid.
  DERIVED. THE GIVEN ROWS OF THIS SEAT. 5 by the template 'for every input the law returns true; each argument reads behind the call as it read before'; 0 by the template 'total and deterministic' (their statements: YtoeojhabhnoojaaDoorTotals.lean).
  GIVEN WITH THE SEED: the statements are not yours to turn. If you find one false, say at which input.
  Laid BY PROGRAM, IN A SANDBOX (cutbox-rows.mjs): the forced cells as the released guide's own fill.sh prints them over the translation a85fab3e80d8215e… (all of the seat's roots in one cut). By AI agents, Wed Nov 11 2026. No macro, syntax, notation, axiom, sorry.
-/
import Derived.Test.YtoeojhabhnoojaaDoorChecked
import GoSem.Claim
import GoSem.ClaimJoined
import GoSem.ClaimMapViews
import Derived.JoinedTies
import Derived.KernelRfl
namespace Go.Proofs.YtoeojhabhnoojaaDoor
/- THE CELL 'sum', in the pinned program and in every row, IS THE sha256 OF THE DUMP (.gsa) THAT YtoeojhabhnoojaaDoorProg.lean LOADS. Nothing in Lean hashes anything: it is a label: what it is worth is what the hold of that sum in a sandbox is worth. -/
noncomputable def Tryd.pinned : Pinned := { name := "ytoeojhabhnoojaadoor", sum := "a85fab3e80d8215e62d6c2e81982b153bfb80a34b7963995b1c7837cfc84343e", checked := Tryd.checked }
namespace Rows
def none {H : Type} : Left H := { results := [], args := [] }

/- WHAT THE LISTED PACKAGE-LEVEL VARIABLES READ AS WHEN THE CALL BEGINS. Each datum BY PROGRAM (the guide's laid-datum.mjs) off the statement by which the dump's own 'gosem.cut.vars' lays the variable. In a bare row this is a premise. The card (YtoeojhabhnoojaaDoorCards.lean) ties it to the program's text. -/
def laid_permitoffice_lexeme_classes {H : Type} : DataW H := .agg [.lit (.int .u8 0), .lit (.int .u8 0), .lit (.int .u8 0), .lit (.int .u8 0), .lit (.int .u8 0), .lit (.int .u8 0), .lit (.int .u8 0), .lit (.int .u8 0), .lit (.int .u8 0), .lit (.int .u8 0), .lit (.int .u8 1), .lit (.int .u8 0), .lit (.int .u8 0), .lit (.int .u8 0), .lit (.int .u8 0), .lit (.int .u8 0), .lit (.int .u8 0), .lit (.int .u8 0), .lit (.int .u8 0), .lit (.int .u8 0), .lit (.int .u8 0), .lit (.int .u8 0), .lit (.int .u8 0), .lit (.int .u8 0), .lit (.int .u8 0), .lit (.int .u8 0), .lit (.int .u8 0), .lit (.int .u8 0), .lit (.int .u8 0), .lit (.int .u8 0), .lit (.int .u8 0), .lit (.int .u8 0), .lit (.int .u8 2), .lit (.int .u8 3), .lit (.int .u8 3), .lit (.int .u8 3), .lit (.int .u8 3), .lit (.int .u8 3), .lit (.int .u8 3), .lit (.int .u8 3), .lit (.int .u8 3), .lit (.int .u8 3), .lit (.int .u8 3), .lit (.int .u8 3), .lit (.int .u8 3), .lit (.int .u8 3), .lit (.int .u8 3), .lit (.int .u8 3), .lit (.int .u8 4), .lit (.int .u8 4), .lit (.int .u8 4), .lit (.int .u8 4), .lit (.int .u8 4), .lit (.int .u8 4), .lit (.int .u8 4), .lit (.int .u8 4), .lit (.int .u8 4), .lit (.int .u8 4), .lit (.int .u8 3), .lit (.int .u8 3), .lit (.int .u8 3), .lit (.int .u8 3), .lit (.int .u8 3), .lit (.int .u8 3), .lit (.int .u8 3), .lit (.int .u8 5), .lit (.int .u8 5), .lit (.int .u8 5), .lit (.int .u8 5), .lit (.int .u8 5), .lit (.int .u8 5), .lit (.int .u8 5), .lit (.int .u8 5), .lit (.int .u8 5), .lit (.int .u8 5), .lit (.int .u8 5), .lit (.int .u8 5), .lit (.int .u8 5), .lit (.int .u8 5), .lit (.int .u8 5), .lit (.int .u8 5), .lit (.int .u8 5), .lit (.int .u8 5), .lit (.int .u8 5), .lit (.int .u8 5), .lit (.int .u8 5), .lit (.int .u8 5), .lit (.int .u8 5), .lit (.int .u8 5), .lit (.int .u8 5), .lit (.int .u8 5), .lit (.int .u8 3), .lit (.int .u8 3), .lit (.int .u8 3), .lit (.int .u8 3), .lit (.int .u8 6), .lit (.int .u8 3), .lit (.int .u8 5), .lit (.int .u8 5), .lit (.int .u8 5), .lit (.int .u8 5), .lit (.int .u8 5), .lit (.int .u8 5), .lit (.int .u8 5), .lit (.int .u8 5), .lit (.int .u8 5), .lit (.int .u8 5), .lit (.int .u8 5), .lit (.int .u8 5), .lit (.int .u8 5), .lit (.int .u8 5), .lit (.int .u8 5), .lit (.int .u8 5), .lit (.int .u8 5), .lit (.int .u8 5), .lit (.int .u8 5), .lit (.int .u8 5), .lit (.int .u8 5), .lit (.int .u8 5), .lit (.int .u8 5), .lit (.int .u8 5), .lit (.int .u8 5), .lit (.int .u8 5), .lit (.int .u8 3), .lit (.int .u8 3), .lit (.int .u8 3), .lit (.int .u8 3), .lit (.int .u8 0)]
def laid_permitoffice_mask_flags {H : Type} : DataW H := .agg [.lit (.int .i64 0), .lit (.int .i64 3), .lit (.int .i64 3), .lit (.int .i64 1)]

/-- 'permitofficelaw07.ColourAnswers': WHATEVER THE INPUT: true; the input reads as it did. -/
def colourAnswersSpec : ChangeSpec := { name := "colourAnswers", fn := fun _ => fun
  | [d1, d2, d3, d4, d5] => { results := [.lit (.bool true)], args := [d1, d2, d3, d4, d5] }
  | _ => none }
def colourAnswersRow : OpenClaim := { program := "ytoeojhabhnoojaadoor", sum := "a85fab3e80d8215e62d6c2e81982b153bfb80a34b7963995b1c7837cfc84343e", func := "permitoffice/permitofficelaw07.ColourAnswers", spec := "colourAnswers", unfollowed := true, recurses := true, named := ["permitoffice/lexeme.classes", "permitoffice/mask.flags"], apart := false, laid := [("permitoffice/lexeme.classes", laid_permitoffice_lexeme_classes), ("permitoffice/mask.flags", laid_permitoffice_mask_flags)] }
def ColourAnswersSaid : Prop := colourAnswersRow.holds Tryd.pinned (OpenSpec.ofChange colourAnswersSpec)

/-- ITS FALSE NEIGHBOUR: 'it returns false'. Refute it at one input. -/
def colourAnswersWrong : ChangeSpec := { name := "colourAnswers", fn := fun _ => fun
  | [d1, d2, d3, d4, d5] => { results := [.lit (.bool false)], args := [d1, d2, d3, d4, d5] }
  | _ => none }
def ColourAnswersWrongFalsely : Prop := colourAnswersRow.holds Tryd.pinned (OpenSpec.ofChange colourAnswersWrong)

/-- 'permitofficelaw07.ColourShades': WHATEVER THE INPUT: true; the input reads as it did. -/
def colourShadesSpec : ChangeSpec := { name := "colourShades", fn := fun _ => fun
  | [d] => { results := [.lit (.bool true)], args := [d] }
  | _ => none }
def colourShadesRow : OpenClaim := { program := "ytoeojhabhnoojaadoor", sum := "a85fab3e80d8215e62d6c2e81982b153bfb80a34b7963995b1c7837cfc84343e", func := "permitoffice/permitofficelaw07.ColourShades", spec := "colourShades", unfollowed := true, recurses := true, named := ["permitoffice/lexeme.classes", "permitoffice/mask.flags"], apart := false, laid := [("permitoffice/lexeme.classes", laid_permitoffice_lexeme_classes), ("permitoffice/mask.flags", laid_permitoffice_mask_flags)] }
def ColourShadesSaid : Prop := colourShadesRow.holds Tryd.pinned (OpenSpec.ofChange colourShadesSpec)

/-- ITS FALSE NEIGHBOUR: 'it returns false'. Refute it at one input. -/
def colourShadesWrong : ChangeSpec := { name := "colourShades", fn := fun _ => fun
  | [d] => { results := [.lit (.bool false)], args := [d] }
  | _ => none }
def ColourShadesWrongFalsely : Prop := colourShadesRow.holds Tryd.pinned (OpenSpec.ofChange colourShadesWrong)

/-- 'permitofficelaw07.ColourGrows': WHATEVER THE INPUT: true; the input reads as it did. -/
def colourGrowsSpec : ChangeSpec := { name := "colourGrows", fn := fun _ => fun
  | [d] => { results := [.lit (.bool true)], args := [d] }
  | _ => none }
def colourGrowsRow : OpenClaim := { program := "ytoeojhabhnoojaadoor", sum := "a85fab3e80d8215e62d6c2e81982b153bfb80a34b7963995b1c7837cfc84343e", func := "permitoffice/permitofficelaw07.ColourGrows", spec := "colourGrows", unfollowed := true, recurses := true, named := ["permitoffice/lexeme.classes", "permitoffice/mask.flags"], apart := false, laid := [("permitoffice/lexeme.classes", laid_permitoffice_lexeme_classes), ("permitoffice/mask.flags", laid_permitoffice_mask_flags)] }
def ColourGrowsSaid : Prop := colourGrowsRow.holds Tryd.pinned (OpenSpec.ofChange colourGrowsSpec)

/-- ITS FALSE NEIGHBOUR: 'it returns false'. Refute it at one input. -/
def colourGrowsWrong : ChangeSpec := { name := "colourGrows", fn := fun _ => fun
  | [d] => { results := [.lit (.bool false)], args := [d] }
  | _ => none }
def ColourGrowsWrongFalsely : Prop := colourGrowsRow.holds Tryd.pinned (OpenSpec.ofChange colourGrowsWrong)

/-- 'permitofficelaw07.ColourParts': WHATEVER THE INPUT: true; the input reads as it did. -/
def colourPartsSpec : ChangeSpec := { name := "colourParts", fn := fun _ => fun
  | [d] => { results := [.lit (.bool true)], args := [d] }
  | _ => none }
def colourPartsRow : OpenClaim := { program := "ytoeojhabhnoojaadoor", sum := "a85fab3e80d8215e62d6c2e81982b153bfb80a34b7963995b1c7837cfc84343e", func := "permitoffice/permitofficelaw07.ColourParts", spec := "colourParts", unfollowed := true, recurses := true, named := ["permitoffice/lexeme.classes", "permitoffice/mask.flags"], apart := false, laid := [("permitoffice/lexeme.classes", laid_permitoffice_lexeme_classes), ("permitoffice/mask.flags", laid_permitoffice_mask_flags)] }
def ColourPartsSaid : Prop := colourPartsRow.holds Tryd.pinned (OpenSpec.ofChange colourPartsSpec)

/-- ITS FALSE NEIGHBOUR: 'it returns false'. Refute it at one input. -/
def colourPartsWrong : ChangeSpec := { name := "colourParts", fn := fun _ => fun
  | [d] => { results := [.lit (.bool false)], args := [d] }
  | _ => none }
def ColourPartsWrongFalsely : Prop := colourPartsRow.holds Tryd.pinned (OpenSpec.ofChange colourPartsWrong)

/-- 'permitofficelaw07.ColourSources': WHATEVER THE INPUT: true; the input reads as it did. -/
def colourSourcesSpec : ChangeSpec := { name := "colourSources", fn := fun _ => fun
  | [d] => { results := [.lit (.bool true)], args := [d] }
  | _ => none }
def colourSourcesRow : OpenClaim := { program := "ytoeojhabhnoojaadoor", sum := "a85fab3e80d8215e62d6c2e81982b153bfb80a34b7963995b1c7837cfc84343e", func := "permitoffice/permitofficelaw07.ColourSources", spec := "colourSources", unfollowed := true, recurses := true, named := ["permitoffice/lexeme.classes", "permitoffice/mask.flags"], apart := false, laid := [("permitoffice/lexeme.classes", laid_permitoffice_lexeme_classes), ("permitoffice/mask.flags", laid_permitoffice_mask_flags)] }
def ColourSourcesSaid : Prop := colourSourcesRow.holds Tryd.pinned (OpenSpec.ofChange colourSourcesSpec)

/-- ITS FALSE NEIGHBOUR: 'it returns false'. Refute it at one input. -/
def colourSourcesWrong : ChangeSpec := { name := "colourSources", fn := fun _ => fun
  | [d] => { results := [.lit (.bool false)], args := [d] }
  | _ => none }
def ColourSourcesWrongFalsely : Prop := colourSourcesRow.holds Tryd.pinned (OpenSpec.ofChange colourSourcesWrong)

/- THE SECOND FORM. 'bulk': how many values and letters a reading holds, each counted each time it is reached (what is shared counts as often as it is met; a slice's spare places count too). A statement '..UptoSaid' is the law's where the arguments, and the package variables that the reading takes, are together of bulk at most 1048576: NARROWER than '..Said'. Prove '..Said' where nothing that the law and all that it calls make is longer than what came in: it says more and counts as full. Else prove '..UptoSaid'. A law counts once. -/
mutual
def uptoBulk {H : Type} : DataW H → Nat
  | .lit (.string bytes) => bytes.length + 1
  | .lit _ => 1
  | .nil => 1
  | .ptr d => uptoBulk d + 1
  | .slice elems spare => uptoBulkAll elems + uptoBulkAll spare + 1
  | .agg parts => uptoBulkAll parts + 1
  | .iface _ d => uptoBulk d + 1
  | .map entries => uptoBulkEntries entries + 1
  | .held _ => 1
def uptoBulkAll {H : Type} : List (DataW H) → Nat
  | [] => 0
  | d :: r => uptoBulk d + uptoBulkAll r
def uptoBulkEntries {H : Type} : List (Lit × DataW H) → Nat
  | [] => 0
  | x :: r => uptoBulkEntry x + uptoBulkEntries r
def uptoBulkEntry {H : Type} : Lit × DataW H → Nat
  | (.string bytes, d) => bytes.length + uptoBulk d + 1
  | (_, d) => uptoBulk d + 1
 end
def uptoSmall : (H : Type) → List (DataW H) → Bool := fun _ ds => decide (uptoBulkAll ds ≤ 1048576)
def OpenSpec.upto (s : _root_.Go.ChangeSpec) : _root_.Go.OpenSpec := { _root_.Go.OpenSpec.ofChange s with cond := some uptoSmall }

/-- 'permitofficelaw07.ColourAnswers', WHERE WHAT IT READS IS OF BULK AT MOST 1048576: true; the input reads as it did. -/
def colourAnswersUptoRow : OpenClaim := { program := "ytoeojhabhnoojaadoor", sum := "a85fab3e80d8215e62d6c2e81982b153bfb80a34b7963995b1c7837cfc84343e", func := "permitoffice/permitofficelaw07.ColourAnswers", spec := "colourAnswers", unfollowed := true, recurses := true, named := ["permitoffice/lexeme.classes", "permitoffice/mask.flags"], apart := false, laid := [("permitoffice/lexeme.classes", laid_permitoffice_lexeme_classes), ("permitoffice/mask.flags", laid_permitoffice_mask_flags)], narrowed := true }
def ColourAnswersUptoSaid : Prop := colourAnswersUptoRow.holds Tryd.pinned (OpenSpec.upto colourAnswersSpec)

/-- 'permitofficelaw07.ColourShades', WHERE WHAT IT READS IS OF BULK AT MOST 1048576: true; the input reads as it did. -/
def colourShadesUptoRow : OpenClaim := { program := "ytoeojhabhnoojaadoor", sum := "a85fab3e80d8215e62d6c2e81982b153bfb80a34b7963995b1c7837cfc84343e", func := "permitoffice/permitofficelaw07.ColourShades", spec := "colourShades", unfollowed := true, recurses := true, named := ["permitoffice/lexeme.classes", "permitoffice/mask.flags"], apart := false, laid := [("permitoffice/lexeme.classes", laid_permitoffice_lexeme_classes), ("permitoffice/mask.flags", laid_permitoffice_mask_flags)], narrowed := true }
def ColourShadesUptoSaid : Prop := colourShadesUptoRow.holds Tryd.pinned (OpenSpec.upto colourShadesSpec)

/-- 'permitofficelaw07.ColourGrows', WHERE WHAT IT READS IS OF BULK AT MOST 1048576: true; the input reads as it did. -/
def colourGrowsUptoRow : OpenClaim := { program := "ytoeojhabhnoojaadoor", sum := "a85fab3e80d8215e62d6c2e81982b153bfb80a34b7963995b1c7837cfc84343e", func := "permitoffice/permitofficelaw07.ColourGrows", spec := "colourGrows", unfollowed := true, recurses := true, named := ["permitoffice/lexeme.classes", "permitoffice/mask.flags"], apart := false, laid := [("permitoffice/lexeme.classes", laid_permitoffice_lexeme_classes), ("permitoffice/mask.flags", laid_permitoffice_mask_flags)], narrowed := true }
def ColourGrowsUptoSaid : Prop := colourGrowsUptoRow.holds Tryd.pinned (OpenSpec.upto colourGrowsSpec)

/-- 'permitofficelaw07.ColourParts', WHERE WHAT IT READS IS OF BULK AT MOST 1048576: true; the input reads as it did. -/
def colourPartsUptoRow : OpenClaim := { program := "ytoeojhabhnoojaadoor", sum := "a85fab3e80d8215e62d6c2e81982b153bfb80a34b7963995b1c7837cfc84343e", func := "permitoffice/permitofficelaw07.ColourParts", spec := "colourParts", unfollowed := true, recurses := true, named := ["permitoffice/lexeme.classes", "permitoffice/mask.flags"], apart := false, laid := [("permitoffice/lexeme.classes", laid_permitoffice_lexeme_classes), ("permitoffice/mask.flags", laid_permitoffice_mask_flags)], narrowed := true }
def ColourPartsUptoSaid : Prop := colourPartsUptoRow.holds Tryd.pinned (OpenSpec.upto colourPartsSpec)

/-- 'permitofficelaw07.ColourSources', WHERE WHAT IT READS IS OF BULK AT MOST 1048576: true; the input reads as it did. -/
def colourSourcesUptoRow : OpenClaim := { program := "ytoeojhabhnoojaadoor", sum := "a85fab3e80d8215e62d6c2e81982b153bfb80a34b7963995b1c7837cfc84343e", func := "permitoffice/permitofficelaw07.ColourSources", spec := "colourSources", unfollowed := true, recurses := true, named := ["permitoffice/lexeme.classes", "permitoffice/mask.flags"], apart := false, laid := [("permitoffice/lexeme.classes", laid_permitoffice_lexeme_classes), ("permitoffice/mask.flags", laid_permitoffice_mask_flags)], narrowed := true }
def ColourSourcesUptoSaid : Prop := colourSourcesUptoRow.holds Tryd.pinned (OpenSpec.upto colourSourcesSpec)

end Rows
end Go.Proofs.YtoeojhabhnoojaaDoor
