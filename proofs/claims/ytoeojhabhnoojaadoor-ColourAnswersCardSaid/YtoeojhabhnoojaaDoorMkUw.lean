/- The walk of what makes a state within masks. Condition: at most 64 elements. -/
import Derived.Test.YtoeojhabhnoojaaDoorMkRf
namespace Go.Proofs.YtoeojhabhnoojaaDoor.msk
open Go.RowKit lex aggs kit net deck


/-- what Within leaves -/
def WtPost (w0 w : World) (la : Option Addr) (len cap bd N : Nat) (e : Ending) (w' : World) : Prop :=
  ∃ v S, e = .returned v ∧ OwnI w' w.heap.size v S ∧ S.length = N ∧ Game w0 w' bd la len cap ∧ w.grownBy w' (some bd)
set_option maxRecDepth 100000 in
set_option maxHeartbeats 4000000 in
theorem within_is {w0 w : World} {la : Option Addr} {len cap bd : Nat} {zs : List Int} (gm : Game w0 w bd la len cap) (hr : IsRow .i64 w0 la len cap zs) (a : Option Addr) (N c : Nat) (xs : List Int) (h : Kept w bd a N c xs) (h64 : N ≤ 64) :
    Calls Tryd.prog 14 #[.pointer (some ⟨bd, 0, none⟩), .slice a N c] w (WtPost w0 w la len cap bd N) := by
  obtain ⟨i0, hi, hz0, hz1, hz2⟩ := info_parts infoI
  have hn := Lib.hid h.1.len
  have n2 := h.1.cap
  have n3 := h.1.max
  unfold maxLen at n3
  have HK := Lib.hid h
  have HR := Lib.hid hr
  have hbd := gm.lt
  have hmn := gm.mine
  have G0 := Lib.hid gm
  clear h hr gm
  go_enter Tryd.func14, Tryd.ntmps14
  go_wp2
  go_loopw [5, 6] (fun v i wr => ∃ (k : Nat) (S : List Int), k ≤ N ∧ i = .int .i64 k ∧ S.length = k ∧ Hid (OwnI wr w.heap.size v S) ∧ Hid (Game w0 wr bd la len cap) ∧ Hid (w.grownBy wr (some bd))) (fun _ i _ => N - (intOf i).toNat)
  case atStart => exact ⟨0, [], Nat.zero_le _, rfl, rfl, AggsAt.nil _ _ _ _ _, G0.out, gb_refl _ _⟩
  case round =>
    obtain ⟨k, S, hk, rfl, hS, own, gmw, gb⟩ := hrel
    by_cases hlt : k < N
    · obtain ⟨g, o, rfl, -, hc⟩ := (HK.out.far gb.out).1.rin.some (by rw [hn.out]; omega)
      have c0 := cells_i hc k (by rw [hn.out]; exact hlt)
      generalize at0 xs k = x at c0
      have hSl := Lib.hid hS
      clear hc hS
      by_cases h12 : x = 1 ∨ x = 2
      · have own2 := Lib.hid (AggsAt.alloc own.out (.cells #[.int .i64 x] 3))
        have gm2 := Lib.hid (gmw.out.alloc (.cells #[.int .i64 x] 3))
        have gb2 : Hid (w.grownBy (wr.alloc (.cells #[.int .i64 x] 3)) (some bd)) := grown_alloc gb.out _
        have lt := fun q hq => (World.ownsRow.lt own2.out q hq).1
        have LT := Lib.hid lt
        clear own gmw gb lt
        rcases h12 with rfl | rfl
        all_goals (
          go_wp2_with (at_builtin; go_must (refine wpList_append_own _ rfl (.tmp 27) (.tmp 29) 22 rfl w.heap.size 3 i0 _ 1 8 Tryd.underlying22 hi hz0 hz1 hz2 rfl (by decide) u5 S.length (flat encI S) rfl own2.out _ 1 1 (encI _) rfl rfl (cell_newI _ _ rfl _ _) (encI_one _) (by rw [hSl.out]; unfold maxLen; omega) (by rw [hSl.out]; omega) gb2.out.size ?_))
          intro v' w5 hown' hgrow hnil'
          have NU : Hid (OwnI w5 w.heap.size v' (S ++ [_])) := AggsAt.push hown'
          have NG : Hid (w.grownBy w5 (some bd)) := gb_new_row gb2.out hgrow (fun q hq => LT.out q hq)
          have NM := Lib.hid (gm2.out.grown hgrow (fun e => by have := LT.out _ e.symm; omega) (fun q hq => by have := LT.out q hq; omega))
          clear hown' hgrow hnil' own2 gb2 gm2
          go_wp2
          go_roundw
          case rel => exact ⟨k + 1, S ++ [_], by omega, by go_num, by rw [List.length_append, hSl.out]; rfl, NU, NM, NG⟩
          case measure => simp [intOf]; omega)
      · have T1 : (x != 1) = true := bne_iff_ne.2 (by omega)
        have T2 : (x != 2) = true := bne_iff_ne.2 (by omega)
        clear h12
        go_wp2_with fail
        refine (gmw.out.next HR.out 2 (by omega)).mono ?_; rintro e w4 ⟨r, rfl, r0, r1, gm4, gb4⟩
        have own2 := Lib.hid (AggsAt.alloc (AggsAt.grown own.out gb4 (fun j hj => by cases hj; exact hbd)) (.cells #[.int .i64 (1 + r)] 3))
        have gm2 := Lib.hid (gm4.alloc (.cells #[.int .i64 (1 + r)] 3))
        have gb2 : Hid (w.grownBy (w4.alloc (.cells #[.int .i64 (1 + r)] 3)) (some bd)) := grown_alloc (gb_tr gb.out gb4) _
        have LT := Lib.hid (fun q hq => (World.ownsRow.lt own2.out q hq).1)
        clear own gmw gb gm4 gb4 c0
        go_wp2_with (at_builtin; go_must (refine wpList_append_own _ rfl (.tmp 27) (.tmp 29) 22 rfl w.heap.size 3 i0 _ 1 8 Tryd.underlying22 hi hz0 hz1 hz2 rfl (by decide) u5 S.length (flat encI S) rfl own2.out _ 1 1 (encI _) rfl rfl (cell_newI _ _ rfl _ _) (encI_one _) (by rw [hSl.out]; unfold maxLen; omega) (by rw [hSl.out]; omega) gb2.out.size ?_))
        intro v' w5 hown' hgrow hnil'
        have NU : Hid (OwnI w5 w.heap.size v' (S ++ [_])) := AggsAt.push hown'
        have NG : Hid (w.grownBy w5 (some bd)) := gb_new_row gb2.out hgrow (fun q hq => LT.out q hq)
        have NM := Lib.hid (gm2.out.grown hgrow (fun e => by have := LT.out _ e.symm; omega) (fun q hq => by have := LT.out q hq; omega))
        clear hown' hgrow hnil' own2 gb2 gm2
        go_wp2
        go_roundw
        case rel => exact ⟨k + 1, S ++ [_], by omega, by go_num, by rw [List.length_append, hSl.out]; rfl, NU, NM, NG⟩
        case measure => simp [intOf]; omega
    · obtain rfl : k = N := by omega
      go_wp2
      go_ret
      exact ⟨_, S, rfl, own.out, hS, gmw.out, gb.out⟩
end Go.Proofs.YtoeojhabhnoojaaDoor.msk
