/- The walk of Text; Number at given answers. Condition: the tables hold what their texts lay. -/
import Derived.Test.YthdjpmiohfaphaaGreatDoorMwTb
import Derived.Test.YthdjpmiohfaphaaGreatDoorShelf
namespace Go.Proofs.YthdjpmiohfaphaaGreatDoor.lex
open Go.RowKit

set_option maxRecDepth 100000 in
theorem text_any (n : Int) (w : World) (h : Tabs w) (h0 : -9223372036854775808 ≤ n) (h1 : n ≤ 9223372036854775807) :
    Calls Tryz.prog 53 #[.int .i64 n] w fun e w' => e = .returned (.string ⟨(Lib.itoa n).toArray⟩) ∧ Below w.heap.size w w' := by
  have H := Lib.hid h.pow
  clear h
  go_enter Tryz.func53, Tryz.ntmps53
  go_wp2_with (go_at_call 65; refine (Tryz.strconv_Itoa n h0 h1 _ H.out).mono ?_; rintro e w' ⟨rfl, k, os, rfl⟩)
  go_ret
  exact ⟨rfl, Lib.below_grow _ _ (Nat.le_refl _) _ _⟩

theorem number_at (s : ByteArray) (most : Int) (n : Int) (b : Bool) (w : World) (h : HasClasses w) (hs : s.size ≤ maxLen) (m0 : -9223372036854775808 ≤ most) (m1 : most ≤ 9223372036854775807) (hv : numV s.data.toList most = n) (hb : numB s.data.toList most = b) :
    Calls Tryz.prog 68 #[.string s, .int .i64 most] w fun e w' => e = .returned (.tuple #[.int .i64 n, .bool b]) ∧ w = w' := by
  subst hv hb; exact number_any s most w h hs m0 m1
end Go.Proofs.YthdjpmiohfaphaaGreatDoor.lex
