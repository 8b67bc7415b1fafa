/- The class of a byte, read off the table. Condition: the table 'classes' holds what its text lays. -/
import Derived.Test.YthdjpmiohfaphaaGreatDoorLexM
import Derived.Test.YthdjpmiohfaphaaGreatDoorProg
import Derived.WalkKit
import Derived.WalkSpells
import Derived.WalkLawsBesides
import Derived.Outline
import Derived.Lib.Hide
namespace Go.Proofs.YthdjpmiohfaphaaGreatDoor.lex
open Go.RowKit

/-- the table of classes lies where the program laid it -/
def HasClasses (w : World) : Prop := ∀ i : Nat, i < 128 → w.cell? ⟨1, i, none⟩ = some (.int .u8 (clsI i))

set_option maxRecDepth 100000 in
theorem classOf_any (c : UInt8) (w : World) (h : HasClasses w) :
    Calls Tryz.prog 57 #[.int .u8 (c.toNat : Int)] w fun e w' => e = .returned (.int .u8 (clsI c.toNat)) ∧ w = w' := by
  have hlt : c.toNat < 256 := c.toNat_lt
  by_cases hc : c.toNat < 128
  · have h1 := h c.toNat hc
    clear h
    go_enter Tryz.func57, Tryz.ntmps57
    go_wp2
    go_ret
    exact ⟨rfl, rfl⟩
  · have h0 : clsI c.toNat = 0 := by unfold clsI; repeat (first | rw [if_neg (by omega)])
    rw [h0]
    clear h h0
    go_enter Tryz.func57, Tryz.ntmps57
    go_wp2
    go_ret
    exact ⟨rfl, rfl⟩
theorem classOf_is (c : UInt8) (n : Int) (hn : clsI c.toNat = n) (w : World) (h : HasClasses w) :
    Calls Tryz.prog 57 #[.int .u8 (c.toNat : Int)] w fun e w' => e = .returned (.int .u8 n) ∧ w = w' := by
  subst hn; exact classOf_any c w h

theorem ret_bool {x y : Bool} (g : x = y) : Ending.returned (.bool x) = .returned (.bool y) := by rw [g]
theorem ret_num {a b : Int} {x y : Bool} (h : a = b) (g : x = y) : Ending.returned (.tuple #[.int .i64 a, .bool x]) = .returned (.tuple #[.int .i64 b, .bool y]) := by rw [h, g]

theorem HasClasses.below {w w' : World} (h : HasClasses w) (hb : Below w.heap.size w w') : HasClasses w' :=
  fun i hi => by rw [hb.cell (p := ⟨1, i, none⟩) (World.block_lt_of_cell? w _ (h i hi))]; exact h i hi
end Go.Proofs.YthdjpmiohfaphaaGreatDoor.lex
