/- Plain facts on words and lines: what is joined is read as it was; the walk of Join. Conditions of the walk: the slice is the call's own, the joined text is of at most 2^47 bytes. -/
import Derived.Test.YthdjpmiohfaphaaGreatDoorMwL
import Derived.Test.YthdjpmiohfaphaaGreatDoorShelf
import Derived.Lib.Join
namespace Go.Proofs.YthdjpmiohfaphaaGreatDoor.lex
open Go.RowKit strs
theorem lines_call_more (L : List (List UInt8)) (hL : ∀ x ∈ L, Plain x) (hl : (textOf L).length ≤ 1000) (w : World) (h : HasClasses w) :
    Calls Tryz.prog 36 #[.string (bs (textOf L) ++ { data := #[120] })] w (LinesPost none w) :=
  lines_eq _ _ (more_bs _) none (lines_more L hL) w h (by simp; omega)
theorem lines_call_odd (L : List (List UInt8)) (hl : (textOf L).length ≤ 1000) (w : World) (h : HasClasses w) :
    Calls Tryz.prog 36 #[.string ({ data := #[31, 10] } ++ bs (textOf L))] w (LinesPost none w) :=
  lines_eq _ _ (odd_bs _) none (lines_odd _) w h (by simp; omega)

set_option maxRecDepth 100000 in
set_option maxHeartbeats 400000 in
theorem join_any {base : Nat} {v : Value} {xs : List (List UInt8)} {w : World} (h : StrsAt w base v xs) (hlen : wsum xs ≤ 140737488355328) :
    Calls Tryz.prog 56 #[v] w fun e w' => e = .returned (.string (bs (Lib.join xs [32]))) ∧ Below w.heap.size w w' := by
  rcases h.shape with ⟨rfl, rfl⟩ | ⟨g, c, rfl, _, hg, hn, hm, hc⟩
  · have c1 := Lib.hid (Tryz.strings_Join_none none 0 ⟨#[32]⟩ w)
    go_enter Tryz.func56, Tryz.ntmps56
    go_wp2_with fail
    refine c1.out.mono ?_; rintro e w' ⟨rfl, rfl⟩
    go_wp2
    go_ret
    exact ⟨rfl, Below.refl _ _⟩
  · have e : ((xs.map bs).map (·.data.toList)) = xs := by rw [List.map_map]; exact (List.map_congr_left (fun x _ => bs_data x)).trans (List.map_id _)
    have c1 := Tryz.strings_Join g 0 c (xs.map bs) ⟨#[32]⟩ w (fun j x hx => by
      rw [List.getElem?_map] at hx
      obtain ⟨y, hy, rfl⟩ := Option.map_eq_some_iff.1 hx
      obtain ⟨hj, rfl⟩ := List.getElem?_eq_some_iff.1 hy
      rw [Nat.zero_add]; exact hc j hj) hg (by have := length_le_wsum xs; simp; omega) (by simpa using hn) (by rw [e]; have := join_length xs; exact Nat.le_trans this hlen)
    rw [e, List.length_map] at c1
    have C1 := Lib.hid c1
    clear c1 e hc
    go_enter Tryz.func56, Tryz.ntmps56
    go_wp2_with fail
    refine C1.out.mono ?_; rintro e w' ⟨rfl, hb⟩
    go_wp2
    go_ret
    exact ⟨rfl, hb⟩
end Go.Proofs.YthdjpmiohfaphaaGreatDoor.lex
