/- The walk of One. No condition. -/
import Derived.Test.YtoeojhabhnoojaaDoorMkNm
namespace Go.Proofs.YtoeojhabhnoojaaDoor.net
open Go.RowKit lex aggs kit deck

/-- what One leaves -/
def OnePost (w wr : World) (b : Nat) (a : Option Addr) (len cap : Nat) (e : Ending) (w' : World) : Prop :=
  ∃ r : Bool, e = .returned (.bool r) ∧ Game w w' b a len cap ∧ wr.grownBy w' (some b)
set_option maxRecDepth 100000 in
theorem one_is {w wr : World} {b len cap : Nat} {a : Option Addr} {zs : List Int} (g : Game w wr b a len cap) (hr : IsRow .i64 w a len cap zs) (n : Int) (n2 : n ≤ 9223372036854775807) :
    Calls Tryd.prog 37 #[.pointer (some ⟨b, 0, none⟩), .int .i64 n] wr (OnePost w wr b a len cap) := by
  have NX := Lib.hid (g.next hr n n2)
  clear g hr
  go_enter Tryd.func37, Tryd.ntmps37
  go_wp2_with fail
  refine NX.out.mono ?_; rintro e w' ⟨r, rfl, -, -, hg, hgb⟩
  go_wp2
  go_ret
  exact ⟨_, rfl, hg, hgb⟩
end Go.Proofs.YtoeojhabhnoojaaDoor.net
