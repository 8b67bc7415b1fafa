/- The walk of Words: the parts of a line between spaces. Condition: the table 'classes' holds what its text lays. -/
import Derived.Test.YthdjpmiohfaphaaGreatDoorNumP
import Derived.Test.YthdjpmiohfaphaaGreatDoorStrs
import Derived.Test.YthdjpmiohfaphaaGreatDoorLexP
namespace Go.Proofs.YthdjpmiohfaphaaGreatDoor.lex
open Go.RowKit strs
def WordsPost (l : List UInt8) (w : World) (e : Ending) (w' : World) : Prop :=
  ∃ v, e = .returned v ∧ StrsAt w' w.heap.size v (words l) ∧ Below w.heap.size w w'

set_option maxRecDepth 100000 in
set_option maxHeartbeats 1000000 in
theorem words_any (s : ByteArray) (w : World) (h : HasClasses w) (hs : s.size ≤ 1099511627776) :
    Calls Tryz.prog 38 #[.string s] w (WordsPost s.data.toList w) := by
  have H := Lib.hid h
  have hl : s.data.toList.length = s.size := by simp
  clear h
  obtain ⟨i0, hi, hz0, hz1, hz2⟩ := info_parts info9
  go_enter Tryz.func38, Tryz.ntmps38
  go_wp2
  go_loopw [3, 4, 8] (fun v st i wr => ∃ (k b : Nat) (W : List (List UInt8)), k ≤ s.size ∧ b ≤ k ∧ i = .int .i64 k ∧ st = .int .i64 b ∧ StrsAt wr w.heap.size v W ∧ W.length ≤ k ∧ Below w.heap.size w wr ∧ Hid (words s.data.toList = W ++ wordsF (part s.data.toList b k) (s.data.toList.drop k))) (fun _ _ i _ => s.size - (intOf i).toNat)
  case atStart => exact ⟨0, 0, [], Nat.zero_le _, Nat.le_refl _, rfl, rfl, StrsAt.nil _ _, Nat.le_refl _, Below.refl _ _, by rw [part_self]; rfl⟩
  case round =>
    obtain ⟨k, b, W, hk, hbk, rfl, rfl, hown, hW, hbl, hwd⟩ := hrel
    have hc : Hid (HasClasses wr) := fun i hi => by rw [hbl.cell (p := ⟨1, i, none⟩) (World.block_lt_of_cell? w _ (H.out i hi))]; exact H.out i hi
    by_cases hlt : k < s.size
    · by_cases hsp : s[k] = 32
      · have HC := Lib.hid (cls_space hsp)
        have HS := Lib.hid hsp
        clear hsp
        by_cases hne : b < k
        · have hnext := Lib.hid (step_space hwd.out (by omega) HS.out hne)
          have hx : Hid (s.extract b k = bs (part s.data.toList b k)) := extract_bs s b k
          go_wp2_with fail
          refine (classOf_is _ 2 HC.out _ hc.out).mono ?_; rintro e w' ⟨rfl, rfl⟩
          go_wp2_with (at_builtin; refine wpList_append_own _ rfl _ _ 39 rfl w.heap.size 9 i0 (.string ByteArray.empty) 1 16 Tryz.underlying39 hi hz0 hz1 hz2 rfl (by decide) _ _ _ rfl (World.ownsRow.alloc hown _) ⟨wr.heap.size, 0, none⟩ 1 1 [.string (s.extract b k)] rfl rfl (cell_one_new _ _ _) (fun x hx => by simp at hx; subst hx; rfl) (by unfold maxLen; omega) (by omega) (by have := hbl.size; simp; omega) ?_; intro v' w1 hown' hgrow _)
          have hpush := StrsAt.push (by rw [← hx.out]; exact hown')
          have hb2 := (hbl.alloc hbl.size _).grown hgrow (by have := hbl.size; simp; omega) (fun k hk => (World.ownsRow.lt hown k hk).1)
          clear hown' hgrow hown hbl hc
          go_wp2
          go_roundw
          case rel => exact ⟨k + 1, k + 1, _, by omega, by omega, by go_num, by go_num, hpush, by simp; omega, hb2, hnext⟩
          case measure => simp [intOf]; omega
        · obtain rfl : b = k := by omega
          have hnext := Lib.hid (step_space0 hwd.out (by omega) HS.out)
          go_wp2_with fail
          refine (classOf_is _ 2 HC.out _ hc.out).mono ?_; rintro e w' ⟨rfl, rfl⟩
          clear hc
          go_wp2
          go_roundw
          case rel => exact ⟨b + 1, b + 1, W, by omega, by omega, by go_num, by go_num, hown, by omega, hbl, hnext⟩
          case measure => simp [intOf]; omega
      · have hnext := Lib.hid (step_other hwd.out (by omega) hsp hbk)
        obtain ⟨n, hcn⟩ : ∃ n, clsI s[k].toNat = n := ⟨_, rfl⟩
        have HC := cls_not_space hsp
        rw [hcn] at HC
        have HN := Lib.hid hcn
        have HC' : (n != 2) = true := by rw [bne_iff_ne]; exact HC
        clear hcn HC hsp
        go_wp2_with fail
        refine (classOf_is _ n HN.out _ hc.out).mono ?_; rintro e w' ⟨rfl, rfl⟩
        clear hc
        go_wp2
        go_roundw
        case rel => exact ⟨k + 1, b, W, by omega, by omega, by go_num, rfl, hown, by omega, hbl, hnext⟩
        case measure => simp [intOf]; omega
    · have hk' := Lib.hid (show k = s.data.toList.length by omega)
      have hks : k = s.size := by omega
      subst hks
      clear hc
      by_cases hne : b < s.size
      · have hnext := Lib.hid (step_end hwd.out hk'.out hne)
        have hx : Hid (s.extract b s.size = bs (part s.data.toList b s.size)) := extract_bs s b s.size
        go_wp2_with (at_builtin; refine wpList_append_own _ rfl _ _ 39 rfl w.heap.size 9 i0 (.string ByteArray.empty) 1 16 Tryz.underlying39 hi hz0 hz1 hz2 rfl (by decide) _ _ _ rfl (World.ownsRow.alloc hown _) ⟨wr.heap.size, 0, none⟩ 1 1 [.string (s.extract b s.size)] rfl rfl (cell_one_new _ _ _) (fun x hx => by simp at hx; subst hx; rfl) (by unfold maxLen; omega) (by omega) (by have := hbl.size; simp; omega) ?_; intro v' w1 hown' hgrow _)
        have hpush := StrsAt.push (by rw [← hx.out]; exact hown')
        have hb2 := (hbl.alloc hbl.size _).grown hgrow (by have := hbl.size; simp; omega) (fun k hk => (World.ownsRow.lt hown k hk).1)
        clear hown' hgrow hown hbl
        go_wp2
        go_ret
        exact ⟨_, rfl, by rw [hnext.out]; exact hpush, hb2⟩
      · obtain rfl : b = s.size := by omega
        have hnext := Lib.hid (step_end0 hwd.out hk'.out)
        go_wp2
        go_ret
        exact ⟨_, rfl, by rw [hnext.out]; exact hown, hbl⟩
theorem words_bs (x : List UInt8) (w : World) (h : HasClasses w) (hs : x.length ≤ 1099511627776) : Calls Tryz.prog 38 #[.string (bs x)] w (WordsPost x w) := by
  have := words_any (bs x) w h (by rw [bs_size]; exact hs)
  rwa [bs_data] at this
end Go.Proofs.YthdjpmiohfaphaaGreatDoor.lex
