/- The tables that the calls of layer 4 read, where the program laid them. No walk in this text. -/
import Derived.Test.YtdgllaiejhnjmaaDoorMdB
import Derived.Test.YtdgllaiejhnjmaaDoorLaidS
namespace Go.Proofs.YtdgllaiejhnjmaaDoor.mod
open Go.RowKit lex net aggs kit strs

theorem MTabs.of {w : World} {zs ps : List Int} {ks : List (List UInt8)} (hz : zs = (List.range 128).map clsI) (hp : ps = Lib.pow10Tab) (hk : ks = (List.range 7).map fun k : Nat => kw (k : Int)) (hc : Lib.TabIs Tryd.prog w "permitoffice/lexeme.classes" .u8 zs) (hw : Lib.TabIs Tryd.prog w "internal/strconv.uint64pow10" .u64 ps) (hs : StrTab Tryd.prog w "permitoffice/modeltext.kindWords" ks) : MTabs w where
  tabs := Tabs.of hz hp hc hw
  kinds := fun k h6 => hs.cell gKw k (kw k) (by
    rw [hk, List.getElem?_map, List.getElem?_range (by omega)]; rfl)
end Go.Proofs.YtdgllaiejhnjmaaDoor.mod
