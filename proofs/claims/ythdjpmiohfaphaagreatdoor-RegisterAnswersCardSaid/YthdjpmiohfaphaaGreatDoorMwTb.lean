/- The tables that the calls of layer 1 read, where the program laid them; strconv's powers of ten. No walk in this text. -/
import Derived.Test.YthdjpmiohfaphaaGreatDoorNumP
import Derived.Lib.AppendIntMem
import Derived.Test.YthdjpmiohfaphaaGreatDoorShelf
namespace Go.Proofs.YthdjpmiohfaphaaGreatDoor.lex
open Go.RowKit

/-- what every call of layer 1 reads: the two tables -/
structure Tabs (w : World) : Prop where
  cls : HasClasses w
  pow : Lib.TabIs Tryz.prog w "internal/strconv.uint64pow10" .u64 Lib.pow10Tab
theorem gCls : Tryz.prog.globalNamed "permitoffice/lexeme.classes" = some 1 := by kernel_rfl
theorem gPow : Tryz.prog.globalNamed "internal/strconv.uint64pow10" = some 2 := by kernel_rfl
theorem Tabs.of {w : World} {zs ps : List Int} (hz : zs = (List.range 128).map clsI) (hp : ps = Lib.pow10Tab) (hc : Lib.TabIs Tryz.prog w "permitoffice/lexeme.classes" .u8 zs) (hw : Lib.TabIs Tryz.prog w "internal/strconv.uint64pow10" .u64 ps) : Tabs w := by
  subst hz hp
  refine ⟨fun i hi => ?_, hw⟩
  have := hc.cell gCls i (by simpa using hi)
  rw [this, List.getD_eq_getElem?_getD, List.getElem?_map, List.getElem?_range hi]; rfl
theorem Tabs.below {w w' : World} (h : Tabs w) (hb : Below w.heap.size w w') : Tabs w' where
  cls := fun i hi => by rw [hb.cell (p := ⟨1, i, none⟩) (World.block_lt_of_cell? w _ (h.cls i hi))]; exact h.cls i hi
  pow := var?_below hb gPow (World.block_lt_of_cell? w ⟨2, 0, none⟩ (h.pow.cell gPow 0 (by rw [Lib.pow10Tab_length]; decide))) h.pow

end Go.Proofs.YthdjpmiohfaphaaGreatDoor.lex
