/- The walk of Lines: the lines of a text. Condition: the table 'classes' holds what its text lays. -/
import Derived.Test.YthdjpmiohfaphaaGreatDoorMwW
namespace Go.Proofs.YthdjpmiohfaphaaGreatDoor.lex
open Go.RowKit strs
/-- what a call leaves that hands back the lines of a text -/
def LinesPost (r : Option (List (List UInt8))) (w : World) (e : Ending) (w' : World) : Prop :=
  ∃ v, e = .returned (.tuple #[v, .bool r.isSome]) ∧ StrsAt w' w.heap.size v (r.getD []) ∧ Below w.heap.size w w'

set_option maxRecDepth 100000 in
set_option maxHeartbeats 1000000 in
theorem lines_any (s : ByteArray) (w : World) (h : HasClasses w) (hs : s.size ≤ maxLen) :
    Calls Tryz.prog 36 #[.string s] w (LinesPost (lines s.data.toList) w) := by
  have H := Lib.hid h
  have hl : s.data.toList.length = s.size := by simp
  clear h
  unfold maxLen at hs
  obtain ⟨i0, hi, hz0, hz1, hz2⟩ := info_parts info9
  obtain ⟨r, hr⟩ : ∃ r, lines s.data.toList = r := ⟨_, rfl⟩
  rw [hr]
  by_cases hbig : 65536 < s.size
  · have e : r = none := by rw [← hr]; unfold lines; rw [if_pos (by omega)]
    subst e
    clear hr hl
    go_enter Tryz.func36, Tryz.ntmps36
    go_wp2
    go_ret2
    exact ⟨_, rfl, StrsAt.nil _ _, Below.refl _ _⟩
  · have HR : Hid (linesF [] s.data.toList = r) := by rw [← hr]; unfold lines; rw [if_neg (by omega)]; rfl
    clear hr
    go_enter Tryz.func36, Tryz.ntmps36
    go_wp2
    go_loopw [4, 5, 12] (fun v st i wr => ∃ (k b : Nat) (W : List (List UInt8)), k ≤ s.size ∧ b ≤ k ∧ i = .int .i64 k ∧ st = .int .i64 b ∧ StrsAt wr w.heap.size v W ∧ W.length ≤ k ∧ Below w.heap.size w wr ∧ LInv s.data.toList W b k) (fun _ _ i _ => s.size - (intOf i).toNat)
    case atStart => exact ⟨0, 0, [], Nat.zero_le _, Nat.le_refl _, rfl, rfl, StrsAt.nil _ _, Nat.le_refl _, Below.refl _ _, LInv.start _⟩
    case round =>
      obtain ⟨k, b, W, hk, hbk, rfl, rfl, hown, hW, hbl, hwd⟩ := hrel
      have hc : Hid (HasClasses wr) := fun i hi => by rw [hbl.cell (p := ⟨1, i, none⟩) (World.block_lt_of_cell? w _ (H.out i hi))]; exact H.out i hi
      by_cases hlt : k < s.size
      · by_cases hsp : s[k] = 10
        · have HC := Lib.hid (cls_feed hsp)
          have hnext := LInv.feed hwd (by omega) hsp
          clear hsp
          have hx : Hid (s.extract b k = bs (part s.data.toList b k)) := extract_bs s b k
          go_wp2_with fail
          refine (classOf_is _ 1 HC.out _ hc.out).mono ?_; rintro e w' ⟨rfl, rfl⟩
          go_wp2_with (at_builtin; refine wpList_append_own _ rfl _ _ 39 rfl w.heap.size 9 i0 (.string ByteArray.empty) 1 16 Tryz.underlying39 hi hz0 hz1 hz2 rfl (by decide) _ _ _ rfl (World.ownsRow.alloc hown _) ⟨wr.heap.size, 0, none⟩ 1 1 [.string (s.extract b k)] rfl rfl (cell_one_new _ _ _) (fun x hx => by simp at hx; subst hx; rfl) (by unfold maxLen; omega) (by omega) (by have := hbl.size; simp; omega) ?_; intro v' w1 hown' hgrow _)
          have hpush := StrsAt.push (by rw [← hx.out]; exact hown')
          have hb2 := (hbl.alloc hbl.size _).grown hgrow (by have := hbl.size; simp; omega) (fun k hk => (World.ownsRow.lt hown k hk).1)
          clear hown' hgrow hown hbl hc hwd
          go_wp2
          go_roundw
          case rel => exact ⟨k + 1, k + 1, _, by omega, by omega, by go_num, by go_num, hpush, by simp; omega, hb2, hnext⟩
          case measure => simp [intOf]; omega
        · by_cases ht : isT s[k] = true
          · have hnext := LInv.text hwd hbk (by omega) hsp ht
            obtain ⟨n, hcn⟩ : ∃ n, clsI s[k].toNat = n := ⟨_, rfl⟩
            have HC := cls_not_feed hsp
            have HC0 := cls_text ht
            rw [hcn] at HC HC0
            have HN := Lib.hid hcn
            have HC' : (n == 1) = false := by rw [beq_eq_false_iff_ne]; exact HC
            have HC0' : (n == 0) = false := by rw [beq_eq_false_iff_ne]; exact HC0
            clear hcn HC HC0 hsp ht hwd
            go_wp2_with fail
            refine (classOf_is _ n HN.out _ hc.out).mono ?_; rintro e w' ⟨rfl, rfl⟩
            clear hc
            go_wp2
            go_roundw
            case rel => exact ⟨k + 1, b, W, by omega, by omega, by go_num, rfl, hown, by omega, hbl, hnext⟩
            case measure => simp [intOf]; omega
          · have hno := LInv.foreign hwd (by omega) hsp (Bool.eq_false_iff.2 ht)
            have e : r = none := by rw [← HR.out]; exact hno
            subst e
            have HC := Lib.hid (cls_foreign hsp (Bool.eq_false_iff.2 ht))
            clear hno hsp ht hwd
            go_wp2_with fail
            refine (classOf_is _ 0 HC.out _ hc.out).mono ?_; rintro e w' ⟨rfl, rfl⟩
            clear hc
            go_wp2
            go_ret2
            exact ⟨_, rfl, StrsAt.nil _ _, hbl⟩
      · have hks : k = s.size := by omega
        subst hks
        clear hc
        by_cases hne : b < s.size
        · have e : r = none := by rw [← HR.out]; exact LInv.short hwd hne (by omega)
          subst e
          clear hwd
          go_wp2
          go_ret2
          exact ⟨_, rfl, StrsAt.nil _ _, hbl⟩
        · obtain rfl : b = s.size := by omega
          have e : r = some W := by rw [← HR.out]; exact LInv.done hwd (by omega)
          subst e
          clear hwd
          go_wp2
          go_ret2
          exact ⟨_, rfl, hown, hbl⟩
theorem lines_bs (x : List UInt8) (r : Option (List (List UInt8))) (hr : lines x = r) (w : World) (h : HasClasses w) (hs : x.length ≤ 1099511627776) : Calls Tryz.prog 36 #[.string (bs x)] w (LinesPost r w) := by
  have := lines_any (bs x) w h (by rw [bs_size]; unfold maxLen; omega)
  rwa [bs_data, hr] at this
theorem lines_eq (s : ByteArray) (x : List UInt8) (hs : s = bs x) (r : Option (List (List UInt8))) (hr : lines x = r) (w : World) (h : HasClasses w) (hl : x.length ≤ 1099511627776) : Calls Tryz.prog 36 #[.string s] w (LinesPost r w) := by
  subst hs; exact lines_bs x r hr w h hl
end Go.Proofs.YthdjpmiohfaphaaGreatDoor.lex
