/-
  NARROWER THAN 'FOR EVERY INPUT', by the rows' own cells (each row's printed sentence says how): MaskAnswers: laid · MaskStates: laid · MaskMeets: laid · MaskLimit: laid.
  DERIVED. THE GIVEN ROWS OF THIS SEAT. 4 by the template 'for every input the law returns true; each argument reads behind the call as it read before'; 0 by the template 'total and deterministic' (their statements: YtpobgdolhdlmeaaDoorTotals.lean).
  GIVEN WITH THE SEED: the statements are not yours to turn. If you find one false, say at which input.
  Laid BY PROGRAM, IN A SANDBOX (cutbox-rows.mjs): the forced cells as the released guide's own fill.sh prints them over the translation 9967716220bbde9d… (all of the seat's roots in one cut). By AI agents, Wed Nov 11 2026. No macro, syntax, notation, axiom, sorry.
-/
import Derived.Test.YtpobgdolhdlmeaaDoorChecked
import GoSem.Claim
import GoSem.ClaimJoined
import GoSem.ClaimMapViews
import Derived.JoinedTies
import Derived.KernelRfl
namespace Go.Proofs.YtpobgdolhdlmeaaDoor
/- THE CELL 'sum', in the pinned program and in every row, IS THE sha256 OF THE DUMP (.gsa) THAT YtpobgdolhdlmeaaDoorProg.lean LOADS. Nothing in Lean hashes anything: it is a label: what it is worth is what the hold of that sum in a sandbox is worth. -/
noncomputable def Tryd.pinned : Pinned := { name := "ytpobgdolhdlmeaadoor", sum := "9967716220bbde9dd36f84e423d5e3d08063bbf61076cbc3b24d44acd03b4850", checked := Tryd.checked }
namespace Rows
def none {H : Type} : Left H := { results := [], args := [] }

/- WHAT THE LISTED PACKAGE-LEVEL VARIABLES READ AS WHEN THE CALL BEGINS. Each datum BY PROGRAM (the guide's laid-datum.mjs) off the statement by which the dump's own 'gosem.cut.vars' lays the variable. In a bare row this is a premise. The card (YtpobgdolhdlmeaaDoorCards.lean) ties it to the program's text. -/
def laid_permitoffice_lexeme_classes {H : Type} : DataW H := .agg [.lit (.int .u8 0), .lit (.int .u8 0), .lit (.int .u8 0), .lit (.int .u8 0), .lit (.int .u8 0), .lit (.int .u8 0), .lit (.int .u8 0), .lit (.int .u8 0), .lit (.int .u8 0), .lit (.int .u8 0), .lit (.int .u8 1), .lit (.int .u8 0), .lit (.int .u8 0), .lit (.int .u8 0), .lit (.int .u8 0), .lit (.int .u8 0), .lit (.int .u8 0), .lit (.int .u8 0), .lit (.int .u8 0), .lit (.int .u8 0), .lit (.int .u8 0), .lit (.int .u8 0), .lit (.int .u8 0), .lit (.int .u8 0), .lit (.int .u8 0), .lit (.int .u8 0), .lit (.int .u8 0), .lit (.int .u8 0), .lit (.int .u8 0), .lit (.int .u8 0), .lit (.int .u8 0), .lit (.int .u8 0), .lit (.int .u8 2), .lit (.int .u8 3), .lit (.int .u8 3), .lit (.int .u8 3), .lit (.int .u8 3), .lit (.int .u8 3), .lit (.int .u8 3), .lit (.int .u8 3), .lit (.int .u8 3), .lit (.int .u8 3), .lit (.int .u8 3), .lit (.int .u8 3), .lit (.int .u8 3), .lit (.int .u8 3), .lit (.int .u8 3), .lit (.int .u8 3), .lit (.int .u8 4), .lit (.int .u8 4), .lit (.int .u8 4), .lit (.int .u8 4), .lit (.int .u8 4), .lit (.int .u8 4), .lit (.int .u8 4), .lit (.int .u8 4), .lit (.int .u8 4), .lit (.int .u8 4), .lit (.int .u8 3), .lit (.int .u8 3), .lit (.int .u8 3), .lit (.int .u8 3), .lit (.int .u8 3), .lit (.int .u8 3), .lit (.int .u8 3), .lit (.int .u8 5), .lit (.int .u8 5), .lit (.int .u8 5), .lit (.int .u8 5), .lit (.int .u8 5), .lit (.int .u8 5), .lit (.int .u8 5), .lit (.int .u8 5), .lit (.int .u8 5), .lit (.int .u8 5), .lit (.int .u8 5), .lit (.int .u8 5), .lit (.int .u8 5), .lit (.int .u8 5), .lit (.int .u8 5), .lit (.int .u8 5), .lit (.int .u8 5), .lit (.int .u8 5), .lit (.int .u8 5), .lit (.int .u8 5), .lit (.int .u8 5), .lit (.int .u8 5), .lit (.int .u8 5), .lit (.int .u8 5), .lit (.int .u8 5), .lit (.int .u8 5), .lit (.int .u8 3), .lit (.int .u8 3), .lit (.int .u8 3), .lit (.int .u8 3), .lit (.int .u8 6), .lit (.int .u8 3), .lit (.int .u8 5), .lit (.int .u8 5), .lit (.int .u8 5), .lit (.int .u8 5), .lit (.int .u8 5), .lit (.int .u8 5), .lit (.int .u8 5), .lit (.int .u8 5), .lit (.int .u8 5), .lit (.int .u8 5), .lit (.int .u8 5), .lit (.int .u8 5), .lit (.int .u8 5), .lit (.int .u8 5), .lit (.int .u8 5), .lit (.int .u8 5), .lit (.int .u8 5), .lit (.int .u8 5), .lit (.int .u8 5), .lit (.int .u8 5), .lit (.int .u8 5), .lit (.int .u8 5), .lit (.int .u8 5), .lit (.int .u8 5), .lit (.int .u8 5), .lit (.int .u8 5), .lit (.int .u8 3), .lit (.int .u8 3), .lit (.int .u8 3), .lit (.int .u8 3), .lit (.int .u8 0)]
def laid_permitoffice_mask_flags {H : Type} : DataW H := .agg [.lit (.int .i64 0), .lit (.int .i64 3), .lit (.int .i64 3), .lit (.int .i64 1)]

/-- 'permitofficelaw06.MaskAnswers': WHATEVER THE INPUT: true; the input reads as it did. -/
def maskAnswersSpec : ChangeSpec := { name := "maskAnswers", fn := fun _ => fun
  | [d1, d2, d3, d4] => { results := [.lit (.bool true)], args := [d1, d2, d3, d4] }
  | _ => none }
def maskAnswersRow : OpenClaim := { program := "ytpobgdolhdlmeaadoor", sum := "9967716220bbde9dd36f84e423d5e3d08063bbf61076cbc3b24d44acd03b4850", func := "permitoffice/permitofficelaw06.MaskAnswers", spec := "maskAnswers", unfollowed := true, recurses := true, named := ["permitoffice/mask.flags", "permitoffice/lexeme.classes"], apart := false, laid := [("permitoffice/lexeme.classes", laid_permitoffice_lexeme_classes), ("permitoffice/mask.flags", laid_permitoffice_mask_flags)] }
def MaskAnswersSaid : Prop := maskAnswersRow.holds Tryd.pinned (OpenSpec.ofChange maskAnswersSpec)

/-- ITS FALSE NEIGHBOUR: 'it returns false'. Refute it at one input. -/
def maskAnswersWrong : ChangeSpec := { name := "maskAnswers", fn := fun _ => fun
  | [d1, d2, d3, d4] => { results := [.lit (.bool false)], args := [d1, d2, d3, d4] }
  | _ => none }
def MaskAnswersWrongFalsely : Prop := maskAnswersRow.holds Tryd.pinned (OpenSpec.ofChange maskAnswersWrong)

/-- 'permitofficelaw06.MaskStates': WHATEVER THE INPUT: true; the input reads as it did. -/
def maskStatesSpec : ChangeSpec := { name := "maskStates", fn := fun _ => fun
  | [d] => { results := [.lit (.bool true)], args := [d] }
  | _ => none }
def maskStatesRow : OpenClaim := { program := "ytpobgdolhdlmeaadoor", sum := "9967716220bbde9dd36f84e423d5e3d08063bbf61076cbc3b24d44acd03b4850", func := "permitoffice/permitofficelaw06.MaskStates", spec := "maskStates", unfollowed := true, recurses := true, named := ["permitoffice/mask.flags", "permitoffice/lexeme.classes"], apart := false, laid := [("permitoffice/lexeme.classes", laid_permitoffice_lexeme_classes), ("permitoffice/mask.flags", laid_permitoffice_mask_flags)] }
def MaskStatesSaid : Prop := maskStatesRow.holds Tryd.pinned (OpenSpec.ofChange maskStatesSpec)

/-- ITS FALSE NEIGHBOUR: 'it returns false'. Refute it at one input. -/
def maskStatesWrong : ChangeSpec := { name := "maskStates", fn := fun _ => fun
  | [d] => { results := [.lit (.bool false)], args := [d] }
  | _ => none }
def MaskStatesWrongFalsely : Prop := maskStatesRow.holds Tryd.pinned (OpenSpec.ofChange maskStatesWrong)

/-- 'permitofficelaw06.MaskMeets': WHATEVER THE INPUT: true; the input reads as it did. -/
def maskMeetsSpec : ChangeSpec := { name := "maskMeets", fn := fun _ => fun
  | [d] => { results := [.lit (.bool true)], args := [d] }
  | _ => none }
def maskMeetsRow : OpenClaim := { program := "ytpobgdolhdlmeaadoor", sum := "9967716220bbde9dd36f84e423d5e3d08063bbf61076cbc3b24d44acd03b4850", func := "permitoffice/permitofficelaw06.MaskMeets", spec := "maskMeets", unfollowed := true, recurses := true, named := ["permitoffice/mask.flags"], apart := false, laid := [("permitoffice/mask.flags", laid_permitoffice_mask_flags)] }
def MaskMeetsSaid : Prop := maskMeetsRow.holds Tryd.pinned (OpenSpec.ofChange maskMeetsSpec)

/-- ITS FALSE NEIGHBOUR: 'it returns false'. Refute it at one input. -/
def maskMeetsWrong : ChangeSpec := { name := "maskMeets", fn := fun _ => fun
  | [d] => { results := [.lit (.bool false)], args := [d] }
  | _ => none }
def MaskMeetsWrongFalsely : Prop := maskMeetsRow.holds Tryd.pinned (OpenSpec.ofChange maskMeetsWrong)

/-- 'permitofficelaw06.MaskLimit': WHATEVER THE INPUT: true; the input reads as it did. -/
def maskLimitSpec : ChangeSpec := { name := "maskLimit", fn := fun _ => fun
  | [d1, d2] => { results := [.lit (.bool true)], args := [d1, d2] }
  | _ => none }
def maskLimitRow : OpenClaim := { program := "ytpobgdolhdlmeaadoor", sum := "9967716220bbde9dd36f84e423d5e3d08063bbf61076cbc3b24d44acd03b4850", func := "permitoffice/permitofficelaw06.MaskLimit", spec := "maskLimit", unfollowed := true, recurses := true, named := ["permitoffice/mask.flags"], apart := false, laid := [("permitoffice/mask.flags", laid_permitoffice_mask_flags)] }
def MaskLimitSaid : Prop := maskLimitRow.holds Tryd.pinned (OpenSpec.ofChange maskLimitSpec)

/-- ITS FALSE NEIGHBOUR: 'it returns false'. Refute it at one input. -/
def maskLimitWrong : ChangeSpec := { name := "maskLimit", fn := fun _ => fun
  | [d1, d2] => { results := [.lit (.bool false)], args := [d1, d2] }
  | _ => none }
def MaskLimitWrongFalsely : Prop := maskLimitRow.holds Tryd.pinned (OpenSpec.ofChange maskLimitWrong)

/- THE SECOND FORM. 'bulk': how many values and letters a reading holds, each counted each time it is reached (what is shared counts as often as it is met; a slice's spare places count too). A statement '..UptoSaid' is the law's where the arguments, and the package variables that the reading takes, are together of bulk at most 1048576: NARROWER than '..Said'. Prove '..Said' where nothing that the law and all that it calls make is longer than what came in: it says more and counts as full. Else prove '..UptoSaid'. A law counts once. -/
mutual
def uptoBulk {H : Type} : DataW H → Nat
  | .lit (.string bytes) => bytes.length + 1
  | .lit _ => 1
  | .nil => 1
  | .ptr d => uptoBulk d + 1
  | .slice elems spare => uptoBulkAll elems + uptoBulkAll spare + 1
  | .agg parts => uptoBulkAll parts + 1
  | .iface _ d => uptoBulk d + 1
  | .map entries => uptoBulkEntries entries + 1
  | .held _ => 1
def uptoBulkAll {H : Type} : List (DataW H) → Nat
  | [] => 0
  | d :: r => uptoBulk d + uptoBulkAll r
def uptoBulkEntries {H : Type} : List (Lit × DataW H) → Nat
  | [] => 0
  | x :: r => uptoBulkEntry x + uptoBulkEntries r
def uptoBulkEntry {H : Type} : Lit × DataW H → Nat
  | (.string bytes, d) => bytes.length + uptoBulk d + 1
  | (_, d) => uptoBulk d + 1
 end
def uptoSmall : (H : Type) → List (DataW H) → Bool := fun _ ds => decide (uptoBulkAll ds ≤ 1048576)
def OpenSpec.upto (s : _root_.Go.ChangeSpec) : _root_.Go.OpenSpec := { _root_.Go.OpenSpec.ofChange s with cond := some uptoSmall }

/-- 'permitofficelaw06.MaskAnswers', WHERE WHAT IT READS IS OF BULK AT MOST 1048576: true; the input reads as it did. -/
def maskAnswersUptoRow : OpenClaim := { program := "ytpobgdolhdlmeaadoor", sum := "9967716220bbde9dd36f84e423d5e3d08063bbf61076cbc3b24d44acd03b4850", func := "permitoffice/permitofficelaw06.MaskAnswers", spec := "maskAnswers", unfollowed := true, recurses := true, named := ["permitoffice/mask.flags", "permitoffice/lexeme.classes"], apart := false, laid := [("permitoffice/lexeme.classes", laid_permitoffice_lexeme_classes), ("permitoffice/mask.flags", laid_permitoffice_mask_flags)], narrowed := true }
def MaskAnswersUptoSaid : Prop := maskAnswersUptoRow.holds Tryd.pinned (OpenSpec.upto maskAnswersSpec)

/-- 'permitofficelaw06.MaskStates', WHERE WHAT IT READS IS OF BULK AT MOST 1048576: true; the input reads as it did. -/
def maskStatesUptoRow : OpenClaim := { program := "ytpobgdolhdlmeaadoor", sum := "9967716220bbde9dd36f84e423d5e3d08063bbf61076cbc3b24d44acd03b4850", func := "permitoffice/permitofficelaw06.MaskStates", spec := "maskStates", unfollowed := true, recurses := true, named := ["permitoffice/mask.flags", "permitoffice/lexeme.classes"], apart := false, laid := [("permitoffice/lexeme.classes", laid_permitoffice_lexeme_classes), ("permitoffice/mask.flags", laid_permitoffice_mask_flags)], narrowed := true }
def MaskStatesUptoSaid : Prop := maskStatesUptoRow.holds Tryd.pinned (OpenSpec.upto maskStatesSpec)

/-- 'permitofficelaw06.MaskMeets', WHERE WHAT IT READS IS OF BULK AT MOST 1048576: true; the input reads as it did. -/
def maskMeetsUptoRow : OpenClaim := { program := "ytpobgdolhdlmeaadoor", sum := "9967716220bbde9dd36f84e423d5e3d08063bbf61076cbc3b24d44acd03b4850", func := "permitoffice/permitofficelaw06.MaskMeets", spec := "maskMeets", unfollowed := true, recurses := true, named := ["permitoffice/mask.flags"], apart := false, laid := [("permitoffice/mask.flags", laid_permitoffice_mask_flags)], narrowed := true }
def MaskMeetsUptoSaid : Prop := maskMeetsUptoRow.holds Tryd.pinned (OpenSpec.upto maskMeetsSpec)

/-- 'permitofficelaw06.MaskLimit', WHERE WHAT IT READS IS OF BULK AT MOST 1048576: true; the input reads as it did. -/
def maskLimitUptoRow : OpenClaim := { program := "ytpobgdolhdlmeaadoor", sum := "9967716220bbde9dd36f84e423d5e3d08063bbf61076cbc3b24d44acd03b4850", func := "permitoffice/permitofficelaw06.MaskLimit", spec := "maskLimit", unfollowed := true, recurses := true, named := ["permitoffice/mask.flags"], apart := false, laid := [("permitoffice/mask.flags", laid_permitoffice_mask_flags)], narrowed := true }
def MaskLimitUptoSaid : Prop := maskLimitUptoRow.holds Tryd.pinned (OpenSpec.upto maskLimitSpec)

end Rows
end Go.Proofs.YtpobgdolhdlmeaaDoor
