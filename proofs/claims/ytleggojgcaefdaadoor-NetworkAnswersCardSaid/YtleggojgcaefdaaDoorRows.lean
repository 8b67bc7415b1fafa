/-
  NARROWER THAN 'FOR EVERY INPUT', by the rows' own cells (each row's printed sentence says how): NetworkAnswers: laid · NetworkWays: laid · NetworkLess: laid · NetworkAt: laid · NetworkLimits: laid · NetworkErrors: laid.
  DERIVED. THE GIVEN ROWS OF THIS SEAT. 6 by the template 'for every input the law returns true; each argument reads behind the call as it read before'; 0 by the template 'total and deterministic' (their statements: YtleggojgcaefdaaDoorTotals.lean).
  GIVEN WITH THE SEED: the statements are not yours to turn. If you find one false, say at which input.
  Laid BY PROGRAM, IN A SANDBOX (cutbox-rows.mjs): the forced cells as the released guide's own fill.sh prints them over the translation 3ed0ed243bf905b9… (all of the seat's roots in one cut). By AI agents, Wed Nov 11 2026. No macro, syntax, notation, axiom, sorry.
-/
import Derived.Test.YtleggojgcaefdaaDoorChecked
import GoSem.Claim
import GoSem.ClaimJoined
import GoSem.ClaimMapViews
import Derived.JoinedTies
import Derived.KernelRfl
namespace Go.Proofs.YtleggojgcaefdaaDoor
/- THE CELL 'sum', in the pinned program and in every row, IS THE sha256 OF THE DUMP (.gsa) THAT YtleggojgcaefdaaDoorProg.lean LOADS. Nothing in Lean hashes anything: it is a label: what it is worth is what the hold of that sum in a sandbox is worth. -/
noncomputable def Tryd.pinned : Pinned := { name := "ytleggojgcaefdaadoor", sum := "3ed0ed243bf905b902e9f87e9afc0f3f35b72aef3ec7e521fb0ae1c5ebd04fee", checked := Tryd.checked }
namespace Rows
def none {H : Type} : Left H := { results := [], args := [] }

/- WHAT THE LISTED PACKAGE-LEVEL VARIABLES READ AS WHEN THE CALL BEGINS. Each datum BY PROGRAM (the guide's laid-datum.mjs) off the statement by which the dump's own 'gosem.cut.vars' lays the variable. In a bare row this is a premise. The card (YtleggojgcaefdaaDoorCards.lean) ties it to the program's text. -/
def laid_permitoffice_lexeme_classes {H : Type} : DataW H := .agg [.lit (.int .u8 0), .lit (.int .u8 0), .lit (.int .u8 0), .lit (.int .u8 0), .lit (.int .u8 0), .lit (.int .u8 0), .lit (.int .u8 0), .lit (.int .u8 0), .lit (.int .u8 0), .lit (.int .u8 0), .lit (.int .u8 1), .lit (.int .u8 0), .lit (.int .u8 0), .lit (.int .u8 0), .lit (.int .u8 0), .lit (.int .u8 0), .lit (.int .u8 0), .lit (.int .u8 0), .lit (.int .u8 0), .lit (.int .u8 0), .lit (.int .u8 0), .lit (.int .u8 0), .lit (.int .u8 0), .lit (.int .u8 0), .lit (.int .u8 0), .lit (.int .u8 0), .lit (.int .u8 0), .lit (.int .u8 0), .lit (.int .u8 0), .lit (.int .u8 0), .lit (.int .u8 0), .lit (.int .u8 0), .lit (.int .u8 2), .lit (.int .u8 3), .lit (.int .u8 3), .lit (.int .u8 3), .lit (.int .u8 3), .lit (.int .u8 3), .lit (.int .u8 3), .lit (.int .u8 3), .lit (.int .u8 3), .lit (.int .u8 3), .lit (.int .u8 3), .lit (.int .u8 3), .lit (.int .u8 3), .lit (.int .u8 3), .lit (.int .u8 3), .lit (.int .u8 3), .lit (.int .u8 4), .lit (.int .u8 4), .lit (.int .u8 4), .lit (.int .u8 4), .lit (.int .u8 4), .lit (.int .u8 4), .lit (.int .u8 4), .lit (.int .u8 4), .lit (.int .u8 4), .lit (.int .u8 4), .lit (.int .u8 3), .lit (.int .u8 3), .lit (.int .u8 3), .lit (.int .u8 3), .lit (.int .u8 3), .lit (.int .u8 3), .lit (.int .u8 3), .lit (.int .u8 5), .lit (.int .u8 5), .lit (.int .u8 5), .lit (.int .u8 5), .lit (.int .u8 5), .lit (.int .u8 5), .lit (.int .u8 5), .lit (.int .u8 5), .lit (.int .u8 5), .lit (.int .u8 5), .lit (.int .u8 5), .lit (.int .u8 5), .lit (.int .u8 5), .lit (.int .u8 5), .lit (.int .u8 5), .lit (.int .u8 5), .lit (.int .u8 5), .lit (.int .u8 5), .lit (.int .u8 5), .lit (.int .u8 5), .lit (.int .u8 5), .lit (.int .u8 5), .lit (.int .u8 5), .lit (.int .u8 5), .lit (.int .u8 5), .lit (.int .u8 5), .lit (.int .u8 3), .lit (.int .u8 3), .lit (.int .u8 3), .lit (.int .u8 3), .lit (.int .u8 6), .lit (.int .u8 3), .lit (.int .u8 5), .lit (.int .u8 5), .lit (.int .u8 5), .lit (.int .u8 5), .lit (.int .u8 5), .lit (.int .u8 5), .lit (.int .u8 5), .lit (.int .u8 5), .lit (.int .u8 5), .lit (.int .u8 5), .lit (.int .u8 5), .lit (.int .u8 5), .lit (.int .u8 5), .lit (.int .u8 5), .lit (.int .u8 5), .lit (.int .u8 5), .lit (.int .u8 5), .lit (.int .u8 5), .lit (.int .u8 5), .lit (.int .u8 5), .lit (.int .u8 5), .lit (.int .u8 5), .lit (.int .u8 5), .lit (.int .u8 5), .lit (.int .u8 5), .lit (.int .u8 5), .lit (.int .u8 3), .lit (.int .u8 3), .lit (.int .u8 3), .lit (.int .u8 3), .lit (.int .u8 0)]

/-- 'permitofficelaw03.NetworkAnswers': WHATEVER THE INPUT: true; the input reads as it did. -/
def networkAnswersSpec : ChangeSpec := { name := "networkAnswers", fn := fun _ => fun
  | [d1, d2, d3, d4, d5, d6, d7] => { results := [.lit (.bool true)], args := [d1, d2, d3, d4, d5, d6, d7] }
  | _ => none }
def networkAnswersRow : OpenClaim := { program := "ytleggojgcaefdaadoor", sum := "3ed0ed243bf905b902e9f87e9afc0f3f35b72aef3ec7e521fb0ae1c5ebd04fee", func := "permitoffice/permitofficelaw03.NetworkAnswers", spec := "networkAnswers", unfollowed := true, recurses := true, named := ["permitoffice/lexeme.classes"], apart := false, laid := [("permitoffice/lexeme.classes", laid_permitoffice_lexeme_classes)] }
def NetworkAnswersSaid : Prop := networkAnswersRow.holds Tryd.pinned (OpenSpec.ofChange networkAnswersSpec)

/-- ITS FALSE NEIGHBOUR: 'it returns false'. Refute it at one input. -/
def networkAnswersWrong : ChangeSpec := { name := "networkAnswers", fn := fun _ => fun
  | [d1, d2, d3, d4, d5, d6, d7] => { results := [.lit (.bool false)], args := [d1, d2, d3, d4, d5, d6, d7] }
  | _ => none }
def NetworkAnswersWrongFalsely : Prop := networkAnswersRow.holds Tryd.pinned (OpenSpec.ofChange networkAnswersWrong)

/-- 'permitofficelaw03.NetworkWays': WHATEVER THE INPUT: true; the input reads as it did. -/
def networkWaysSpec : ChangeSpec := { name := "networkWays", fn := fun _ => fun
  | [d] => { results := [.lit (.bool true)], args := [d] }
  | _ => none }
def networkWaysRow : OpenClaim := { program := "ytleggojgcaefdaadoor", sum := "3ed0ed243bf905b902e9f87e9afc0f3f35b72aef3ec7e521fb0ae1c5ebd04fee", func := "permitoffice/permitofficelaw03.NetworkWays", spec := "networkWays", unfollowed := true, recurses := true, named := ["permitoffice/lexeme.classes"], apart := false, laid := [("permitoffice/lexeme.classes", laid_permitoffice_lexeme_classes)] }
def NetworkWaysSaid : Prop := networkWaysRow.holds Tryd.pinned (OpenSpec.ofChange networkWaysSpec)

/-- ITS FALSE NEIGHBOUR: 'it returns false'. Refute it at one input. -/
def networkWaysWrong : ChangeSpec := { name := "networkWays", fn := fun _ => fun
  | [d] => { results := [.lit (.bool false)], args := [d] }
  | _ => none }
def NetworkWaysWrongFalsely : Prop := networkWaysRow.holds Tryd.pinned (OpenSpec.ofChange networkWaysWrong)

/-- 'permitofficelaw03.NetworkLess': WHATEVER THE INPUT: true; the input reads as it did. -/
def networkLessSpec : ChangeSpec := { name := "networkLess", fn := fun _ => fun
  | [d] => { results := [.lit (.bool true)], args := [d] }
  | _ => none }
def networkLessRow : OpenClaim := { program := "ytleggojgcaefdaadoor", sum := "3ed0ed243bf905b902e9f87e9afc0f3f35b72aef3ec7e521fb0ae1c5ebd04fee", func := "permitoffice/permitofficelaw03.NetworkLess", spec := "networkLess", unfollowed := true, recurses := true, named := ["permitoffice/lexeme.classes"], apart := false, laid := [("permitoffice/lexeme.classes", laid_permitoffice_lexeme_classes)] }
def NetworkLessSaid : Prop := networkLessRow.holds Tryd.pinned (OpenSpec.ofChange networkLessSpec)

/-- ITS FALSE NEIGHBOUR: 'it returns false'. Refute it at one input. -/
def networkLessWrong : ChangeSpec := { name := "networkLess", fn := fun _ => fun
  | [d] => { results := [.lit (.bool false)], args := [d] }
  | _ => none }
def NetworkLessWrongFalsely : Prop := networkLessRow.holds Tryd.pinned (OpenSpec.ofChange networkLessWrong)

/-- 'permitofficelaw03.NetworkAt': WHATEVER THE INPUT: true; the input reads as it did. -/
def networkAtSpec : ChangeSpec := { name := "networkAt", fn := fun _ => fun
  | [d] => { results := [.lit (.bool true)], args := [d] }
  | _ => none }
def networkAtRow : OpenClaim := { program := "ytleggojgcaefdaadoor", sum := "3ed0ed243bf905b902e9f87e9afc0f3f35b72aef3ec7e521fb0ae1c5ebd04fee", func := "permitoffice/permitofficelaw03.NetworkAt", spec := "networkAt", unfollowed := true, recurses := true, named := ["permitoffice/lexeme.classes"], apart := false, laid := [("permitoffice/lexeme.classes", laid_permitoffice_lexeme_classes)] }
def NetworkAtSaid : Prop := networkAtRow.holds Tryd.pinned (OpenSpec.ofChange networkAtSpec)

/-- ITS FALSE NEIGHBOUR: 'it returns false'. Refute it at one input. -/
def networkAtWrong : ChangeSpec := { name := "networkAt", fn := fun _ => fun
  | [d] => { results := [.lit (.bool false)], args := [d] }
  | _ => none }
def NetworkAtWrongFalsely : Prop := networkAtRow.holds Tryd.pinned (OpenSpec.ofChange networkAtWrong)

/-- 'permitofficelaw03.NetworkLimits': WHATEVER THE INPUT: true; the input reads as it did. -/
def networkLimitsSpec : ChangeSpec := { name := "networkLimits", fn := fun _ => fun
  | [d1, d2] => { results := [.lit (.bool true)], args := [d1, d2] }
  | _ => none }
def networkLimitsRow : OpenClaim := { program := "ytleggojgcaefdaadoor", sum := "3ed0ed243bf905b902e9f87e9afc0f3f35b72aef3ec7e521fb0ae1c5ebd04fee", func := "permitoffice/permitofficelaw03.NetworkLimits", spec := "networkLimits", named := ["permitoffice/lexeme.classes"], apart := false, laid := [("permitoffice/lexeme.classes", laid_permitoffice_lexeme_classes)] }
def NetworkLimitsSaid : Prop := networkLimitsRow.holds Tryd.pinned (OpenSpec.ofChange networkLimitsSpec)

/-- ITS FALSE NEIGHBOUR: 'it returns false'. Refute it at one input. -/
def networkLimitsWrong : ChangeSpec := { name := "networkLimits", fn := fun _ => fun
  | [d1, d2] => { results := [.lit (.bool false)], args := [d1, d2] }
  | _ => none }
def NetworkLimitsWrongFalsely : Prop := networkLimitsRow.holds Tryd.pinned (OpenSpec.ofChange networkLimitsWrong)

/-- 'permitofficelaw03.NetworkErrors': WHATEVER THE INPUT: true; the input reads as it did. -/
def networkErrorsSpec : ChangeSpec := { name := "networkErrors", fn := fun _ => fun
  | [d1, d2] => { results := [.lit (.bool true)], args := [d1, d2] }
  | _ => none }
def networkErrorsRow : OpenClaim := { program := "ytleggojgcaefdaadoor", sum := "3ed0ed243bf905b902e9f87e9afc0f3f35b72aef3ec7e521fb0ae1c5ebd04fee", func := "permitoffice/permitofficelaw03.NetworkErrors", spec := "networkErrors", unfollowed := true, recurses := true, named := ["permitoffice/lexeme.classes"], apart := false, laid := [("permitoffice/lexeme.classes", laid_permitoffice_lexeme_classes)] }
def NetworkErrorsSaid : Prop := networkErrorsRow.holds Tryd.pinned (OpenSpec.ofChange networkErrorsSpec)

/-- ITS FALSE NEIGHBOUR: 'it returns false'. Refute it at one input. -/
def networkErrorsWrong : ChangeSpec := { name := "networkErrors", fn := fun _ => fun
  | [d1, d2] => { results := [.lit (.bool false)], args := [d1, d2] }
  | _ => none }
def NetworkErrorsWrongFalsely : Prop := networkErrorsRow.holds Tryd.pinned (OpenSpec.ofChange networkErrorsWrong)

/- THE SECOND FORM. 'bulk': how many values and letters a reading holds, each counted each time it is reached (what is shared counts as often as it is met; a slice's spare places count too). A statement '..UptoSaid' is the law's where the arguments, and the package variables that the reading takes, are together of bulk at most 1048576: NARROWER than '..Said'. Prove '..Said' where nothing that the law and all that it calls make is longer than what came in: it says more and counts as full. Else prove '..UptoSaid'. A law counts once. -/
mutual
def uptoBulk {H : Type} : DataW H → Nat
  | .lit (.string bytes) => bytes.length + 1
  | .lit _ => 1
  | .nil => 1
  | .ptr d => uptoBulk d + 1
  | .slice elems spare => uptoBulkAll elems + uptoBulkAll spare + 1
  | .agg parts => uptoBulkAll parts + 1
  | .iface _ d => uptoBulk d + 1
  | .map entries => uptoBulkEntries entries + 1
  | .held _ => 1
def uptoBulkAll {H : Type} : List (DataW H) → Nat
  | [] => 0
  | d :: r => uptoBulk d + uptoBulkAll r
def uptoBulkEntries {H : Type} : List (Lit × DataW H) → Nat
  | [] => 0
  | x :: r => uptoBulkEntry x + uptoBulkEntries r
def uptoBulkEntry {H : Type} : Lit × DataW H → Nat
  | (.string bytes, d) => bytes.length + uptoBulk d + 1
  | (_, d) => uptoBulk d + 1
 end
def uptoSmall : (H : Type) → List (DataW H) → Bool := fun _ ds => decide (uptoBulkAll ds ≤ 1048576)
def OpenSpec.upto (s : _root_.Go.ChangeSpec) : _root_.Go.OpenSpec := { _root_.Go.OpenSpec.ofChange s with cond := some uptoSmall }

/-- 'permitofficelaw03.NetworkAnswers', WHERE WHAT IT READS IS OF BULK AT MOST 1048576: true; the input reads as it did. -/
def networkAnswersUptoRow : OpenClaim := { program := "ytleggojgcaefdaadoor", sum := "3ed0ed243bf905b902e9f87e9afc0f3f35b72aef3ec7e521fb0ae1c5ebd04fee", func := "permitoffice/permitofficelaw03.NetworkAnswers", spec := "networkAnswers", unfollowed := true, recurses := true, named := ["permitoffice/lexeme.classes"], apart := false, laid := [("permitoffice/lexeme.classes", laid_permitoffice_lexeme_classes)], narrowed := true }
def NetworkAnswersUptoSaid : Prop := networkAnswersUptoRow.holds Tryd.pinned (OpenSpec.upto networkAnswersSpec)

/-- 'permitofficelaw03.NetworkWays', WHERE WHAT IT READS IS OF BULK AT MOST 1048576: true; the input reads as it did. -/
def networkWaysUptoRow : OpenClaim := { program := "ytleggojgcaefdaadoor", sum := "3ed0ed243bf905b902e9f87e9afc0f3f35b72aef3ec7e521fb0ae1c5ebd04fee", func := "permitoffice/permitofficelaw03.NetworkWays", spec := "networkWays", unfollowed := true, recurses := true, named := ["permitoffice/lexeme.classes"], apart := false, laid := [("permitoffice/lexeme.classes", laid_permitoffice_lexeme_classes)], narrowed := true }
def NetworkWaysUptoSaid : Prop := networkWaysUptoRow.holds Tryd.pinned (OpenSpec.upto networkWaysSpec)

/-- 'permitofficelaw03.NetworkLess', WHERE WHAT IT READS IS OF BULK AT MOST 1048576: true; the input reads as it did. -/
def networkLessUptoRow : OpenClaim := { program := "ytleggojgcaefdaadoor", sum := "3ed0ed243bf905b902e9f87e9afc0f3f35b72aef3ec7e521fb0ae1c5ebd04fee", func := "permitoffice/permitofficelaw03.NetworkLess", spec := "networkLess", unfollowed := true, recurses := true, named := ["permitoffice/lexeme.classes"], apart := false, laid := [("permitoffice/lexeme.classes", laid_permitoffice_lexeme_classes)], narrowed := true }
def NetworkLessUptoSaid : Prop := networkLessUptoRow.holds Tryd.pinned (OpenSpec.upto networkLessSpec)

/-- 'permitofficelaw03.NetworkAt', WHERE WHAT IT READS IS OF BULK AT MOST 1048576: true; the input reads as it did. -/
def networkAtUptoRow : OpenClaim := { program := "ytleggojgcaefdaadoor", sum := "3ed0ed243bf905b902e9f87e9afc0f3f35b72aef3ec7e521fb0ae1c5ebd04fee", func := "permitoffice/permitofficelaw03.NetworkAt", spec := "networkAt", unfollowed := true, recurses := true, named := ["permitoffice/lexeme.classes"], apart := false, laid := [("permitoffice/lexeme.classes", laid_permitoffice_lexeme_classes)], narrowed := true }
def NetworkAtUptoSaid : Prop := networkAtUptoRow.holds Tryd.pinned (OpenSpec.upto networkAtSpec)

/-- 'permitofficelaw03.NetworkLimits', WHERE WHAT IT READS IS OF BULK AT MOST 1048576: true; the input reads as it did. -/
def networkLimitsUptoRow : OpenClaim := { program := "ytleggojgcaefdaadoor", sum := "3ed0ed243bf905b902e9f87e9afc0f3f35b72aef3ec7e521fb0ae1c5ebd04fee", func := "permitoffice/permitofficelaw03.NetworkLimits", spec := "networkLimits", named := ["permitoffice/lexeme.classes"], apart := false, laid := [("permitoffice/lexeme.classes", laid_permitoffice_lexeme_classes)], narrowed := true }
def NetworkLimitsUptoSaid : Prop := networkLimitsUptoRow.holds Tryd.pinned (OpenSpec.upto networkLimitsSpec)

/-- 'permitofficelaw03.NetworkErrors', WHERE WHAT IT READS IS OF BULK AT MOST 1048576: true; the input reads as it did. -/
def networkErrorsUptoRow : OpenClaim := { program := "ytleggojgcaefdaadoor", sum := "3ed0ed243bf905b902e9f87e9afc0f3f35b72aef3ec7e521fb0ae1c5ebd04fee", func := "permitoffice/permitofficelaw03.NetworkErrors", spec := "networkErrors", unfollowed := true, recurses := true, named := ["permitoffice/lexeme.classes"], apart := false, laid := [("permitoffice/lexeme.classes", laid_permitoffice_lexeme_classes)], narrowed := true }
def NetworkErrorsUptoSaid : Prop := networkErrorsUptoRow.holds Tryd.pinned (OpenSpec.upto networkErrorsSpec)

end Rows
end Go.Proofs.YtleggojgcaefdaaDoor
