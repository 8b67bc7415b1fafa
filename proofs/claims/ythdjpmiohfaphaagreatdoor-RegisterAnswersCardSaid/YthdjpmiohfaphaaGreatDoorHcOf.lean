/- The table 'classes' out of what a card says of the listed variables. No walk in this text. -/
import Derived.Test.YthdjpmiohfaphaaGreatDoorNamC
import Derived.Lib.LaidTab
namespace Go.Proofs.YthdjpmiohfaphaaGreatDoor.reg
open lex

theorem gClsR : Tryz.prog.globalNamed "permitoffice/lexeme.classes" = some 1 := by kernel_rfl
theorem classes_of {w : World} {zs : List Int} (hz : zs = (List.range 128).map clsI) (hc : Lib.TabIs Tryz.prog w "permitoffice/lexeme.classes" .u8 zs) : HasClasses w := by
  subst hz
  refine fun i hi => ?_
  have := hc.cell gClsR i (by simpa using hi)
  rw [this, List.getD_eq_getElem?_getD, List.getElem?_map, List.getElem?_range hi]; rfl
end Go.Proofs.YthdjpmiohfaphaaGreatDoor.reg
