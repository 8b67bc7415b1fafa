/- The walks of the reference of layer 1, third part: Words, Lines. -/
import Derived.Test.YthdjpmiohfaphaaGreatDoorMwL
import Derived.Test.YthdjpmiohfaphaaGreatDoorKit
namespace Go.Proofs.YthdjpmiohfaphaaGreatDoor.lex
open Go.RowKit strs kit

/-- the reference's loop goes one step beyond the end -/
def RInv (l : List UInt8) (W : List (List UInt8)) (b k : Nat) : Prop := (k ≤ l.length ∧ words l = W ++ wordsF (part l b k) (l.drop k)) ∨ (k = l.length + 1 ∧ words l = W)
theorem words_start (l : List UInt8) : words l = [] ++ wordsF (part l 0 0) (l.drop 0) := by rw [part_self]; rfl

set_option maxRecDepth 100000 in
set_option maxHeartbeats 1000000 in
theorem rwords_any (s : ByteArray) (w : World) (hs : s.size ≤ 1099511627776) :
    Calls Tryz.prog 40 #[.string s] w (WordsPost s.data.toList w) := by
  have hl : s.data.toList.length = s.size := by simp
  obtain ⟨i0, hi, hz0, hz1, hz2⟩ := info_parts info9
  go_enter Tryz.func40, Tryz.ntmps40
  go_wp2
  go_loopw [3, 4, 5] (fun v st i wr => ∃ (k b : Nat) (W : List (List UInt8)), k ≤ s.size + 1 ∧ b ≤ k ∧ i = .int .i64 k ∧ st = .int .i64 b ∧ StrsAt wr w.heap.size v W ∧ W.length ≤ k ∧ Below w.heap.size w wr ∧ RInv s.data.toList W b k) (fun _ _ i _ => s.size + 1 - (intOf i).toNat)
  case atStart => exact ⟨0, 0, [], Nat.zero_le _, Nat.le_refl _, rfl, rfl, StrsAt.nil _ _, Nat.le_refl _, Below.refl _ _, .inl ⟨Nat.zero_le _, words_start _⟩⟩
  case round =>
    obtain ⟨k, b, W, hk, hbk, rfl, rfl, hown, hW, hbl, hinv⟩ := hrel
    by_cases hle : k ≤ s.size
    · have hwd : words s.data.toList = W ++ wordsF (part s.data.toList b k) (s.data.toList.drop k) := by
        rcases hinv with h | h
        · exact h.2
        · have := h.1; omega
      clear hinv
      have tle : decide ((k : Int) ≤ (s.size : Int)) = true := decide_eq_true (by omega)
      by_cases hlt : k < s.size
      · have tk : ((k : Int) == (s.size : Int)) = false := by rw [beq_eq_false_iff_ne]; omega
        by_cases hsp : s[k] = 32
        · have ts : ((s[k].toNat : Int) == 32) = true := by rw [hsp]; rfl
          by_cases hne : b < k
          · have hnext : RInv s.data.toList (W ++ [part s.data.toList b k]) (k + 1) (k + 1) := .inl ⟨by omega, step_space hwd (by omega) hsp hne⟩
            have hx : Hid (s.extract b k = bs (part s.data.toList b k)) := extract_bs s b k
            clear hsp hwd
            go_wp2_with (at_builtin; go_must (refine wpList_append_own _ rfl _ _ 39 rfl w.heap.size 9 i0 (.string ByteArray.empty) 1 16 Tryz.underlying39 hi hz0 hz1 hz2 rfl (by decide) _ _ _ rfl (World.ownsRow.alloc hown _) ⟨wr.heap.size, 0, none⟩ 1 1 [.string (s.extract b k)] rfl rfl (cell_one_new _ _ _) (fun x hx => by simp at hx; subst hx; rfl) (by unfold maxLen; omega) (by omega) (by have := hbl.size; simp; omega) ?_); intro v' w1 hown' hgrow _)
            have hpush := StrsAt.push (by rw [← hx.out]; exact hown')
            have hb2 := (hbl.alloc hbl.size _).grown hgrow (by have := hbl.size; simp; omega) (fun k hk => (World.ownsRow.lt hown k hk).1)
            clear hown' hgrow hown hbl
            go_wp2
            go_roundw
            case rel => exact ⟨k + 1, k + 1, _, by omega, by omega, by go_num, by go_num, hpush, by simp; omega, hb2, hnext⟩
            case measure => simp [intOf] <;> omega
          · obtain rfl : b = k := by omega
            have hnext : RInv s.data.toList W (b + 1) (b + 1) := .inl ⟨by omega, step_space0 hwd (by omega) hsp⟩
            clear hsp hwd
            go_wp2
            go_roundw
            case rel => exact ⟨b + 1, b + 1, W, by omega, by omega, by go_num, by go_num, hown, by omega, hbl, hnext⟩
            case measure => simp [intOf] <;> omega
        · have ts : ((s[k].toNat : Int) == 32) = false := by
            rw [beq_eq_false_iff_ne]; intro e; exact hsp (UInt8.toNat_inj.1 (by show s[k].toNat = 32; omega))
          have hnext : RInv s.data.toList W b (k + 1) := .inl ⟨by omega, step_other hwd (by omega) hsp hbk⟩
          clear hsp hwd
          go_wp2
          go_roundw
          case rel => exact ⟨k + 1, b, W, by omega, by omega, by go_num, rfl, hown, by omega, hbl, hnext⟩
          case measure => simp [intOf] <;> omega
      · have hks : k = s.size := by omega
        subst hks
        have tk : ((s.size : Int) == (s.size : Int)) = true := beq_self_eq_true _
        by_cases hne : b < s.size
        · have hnext : RInv s.data.toList (W ++ [part s.data.toList b s.size]) (s.size + 1) (s.size + 1) := .inr ⟨by omega, step_end hwd (by omega) hne⟩
          have hx : Hid (s.extract b s.size = bs (part s.data.toList b s.size)) := extract_bs s b s.size
          clear hwd
          go_wp2_with (at_builtin; go_must (refine wpList_append_own _ rfl _ _ 39 rfl w.heap.size 9 i0 (.string ByteArray.empty) 1 16 Tryz.underlying39 hi hz0 hz1 hz2 rfl (by decide) _ _ _ rfl (World.ownsRow.alloc hown _) ⟨wr.heap.size, 0, none⟩ 1 1 [.string (s.extract b s.size)] rfl rfl (cell_one_new _ _ _) (fun x hx => by simp at hx; subst hx; rfl) (by unfold maxLen; omega) (by omega) (by have := hbl.size; simp; omega) ?_); intro v' w1 hown' hgrow _)
          have hpush := StrsAt.push (by rw [← hx.out]; exact hown')
          have hb2 := (hbl.alloc hbl.size _).grown hgrow (by have := hbl.size; simp; omega) (fun k hk => (World.ownsRow.lt hown k hk).1)
          clear hown' hgrow hown hbl
          go_wp2
          go_roundw
          case rel => exact ⟨s.size + 1, s.size + 1, _, by omega, by omega, by go_num, by go_num, hpush, by simp; omega, hb2, hnext⟩
          case measure => simp [intOf] <;> omega
        · obtain rfl : b = s.size := by omega
          have hnext : RInv s.data.toList W (s.size + 1) (s.size + 1) := .inr ⟨by omega, step_end0 hwd (by omega)⟩
          clear hwd
          go_wp2
          go_roundw
          case rel => exact ⟨s.size + 1, s.size + 1, W, by omega, by omega, by go_num, by go_num, hown, by omega, hbl, hnext⟩
          case measure => simp [intOf] <;> omega
    · have hwd : Hid (words s.data.toList = W) := by
        rcases hinv with h | h
        · have := h.1; omega
        · exact h.2
      clear hinv
      go_wp2
      go_ret
      exact ⟨_, rfl, by rw [hwd.out]; exact hown, hbl⟩

theorem linesF_last (r : List UInt8) : ∀ cur, (∀ (h : r ≠ []), r.getLast h ≠ 10) → (r ≠ [] ∨ cur ≠ []) → linesF cur r = none := by
  induction r with
  | nil =>
    intro cur _ h
    rcases h with h | h
    · exact absurd rfl h
    · rw [linesF, if_neg h]
  | cons c r ih =>
    intro cur hl _
    rw [linesF]
    by_cases hr : r = []
    · subst hr
      have : c ≠ 10 := hl (by simp)
      rw [if_neg this]
      split
      · rw [linesF, if_neg (by simp)]
      · rfl
    · have hl' : ∀ (h : r ≠ []), r.getLast h ≠ 10 := fun h => by have := hl (by simp); rwa [List.getLast_cons h] at this
      split
      · rw [ih [] hl' (.inl hr)]; rfl
      · split
        · rw [ih _ hl' (.inl hr)]
        · rfl
theorem lines_last {l : List UInt8} (h : 0 < l.length) (hl : l[l.length - 1] ≠ 10) : lines l = none := by
  unfold lines; split
  · rfl
  · have hne : l ≠ [] := fun e => by rw [e] at h; exact absurd h (Nat.lt_irrefl 0)
    exact linesF_last l [] (fun h' => by rw [List.getLast_eq_getElem]; exact hl) (.inl hne)

/-- the line that is being read is empty exactly behind a line feed -/
def LEnd (l : List UInt8) (b k : Nat) : Prop := b = k ∨ (0 < k ∧ ∀ (h : k - 1 < l.length), l[k - 1] ≠ 10)
theorem LEnd.done {l : List UInt8} {b k : Nat} (h : LEnd l b k) (hk : k = l.length) (he : ∀ (h : 0 < l.length), l[l.length - 1] = 10) : b = k := by
  subst hk
  rcases h with h | ⟨h0, h⟩
  · exact h
  · exact absurd (he h0) (h (by omega))

set_option maxRecDepth 100000 in
set_option maxHeartbeats 2000000 in
theorem rlines_any (s : ByteArray) (w : World) (hs : s.size ≤ maxLen) :
    Calls Tryz.prog 39 #[.string s] w (LinesPost (lines s.data.toList) w) := by
  have hl : s.data.toList.length = s.size := by simp
  unfold maxLen at hs
  obtain ⟨i0, hi, hz0, hz1, hz2⟩ := info_parts info9
  obtain ⟨r, hr⟩ : ∃ r, lines s.data.toList = r := ⟨_, rfl⟩
  rw [hr]
  by_cases hbig : 65536 < s.size
  · have e : r = none := by rw [← hr]; unfold lines; rw [if_pos (by omega)]
    subst e
    have t1 : decide (65536 < (s.size : Int)) = true := decide_eq_true (by omega)
    clear hr hl
    go_enter Tryz.func39, Tryz.ntmps39
    go_wp2
    go_ret2
    exact ⟨_, rfl, StrsAt.nil _ _, Below.refl _ _⟩
  · have t1 : decide (65536 < (s.size : Int)) = false := decide_eq_false (by omega)
    have HR : Hid (linesF [] s.data.toList = r) := by rw [← hr]; unfold lines; rw [if_neg (by omega)]; rfl
    by_cases hz : s.size = 0
    · have t2 : decide (0 < (s.size : Int)) = false := decide_eq_false (by omega)
      have e : r = some [] := by rw [← HR.out, List.eq_nil_of_length_eq_zero (hl.trans hz)]; rfl
      subst e
      clear hr
      go_enter Tryz.func39, Tryz.ntmps39
      go_wp2
      refine wp_loop_rounds 1 ?_; rw [rounds_succ]
      go_wp2
      go_ret2
      exact ⟨_, rfl, StrsAt.nil _ _, Below.refl _ _⟩
    · have hpos : 0 < s.size := by omega
      have t2 : decide (0 < (s.size : Int)) = true := decide_eq_true (by omega)
      by_cases hend : s[s.size - 1] = 10
      · have t3 : ((s[s.size - 1].toNat : Int) != 10) = false := by rw [hend]; rfl
        have HE : Hid (∀ (h : 0 < s.data.toList.length), s.data.toList[s.data.toList.length - 1] = 10) := fun _ => hend
        clear hr hend
        go_enter Tryz.func39, Tryz.ntmps39
        go_wp2
        go_loopw [4, 5, 6] (fun v st i wr => ∃ (k b : Nat) (W : List (List UInt8)), k ≤ s.size ∧ b ≤ k ∧ i = .int .i64 k ∧ st = .int .i64 b ∧ StrsAt wr w.heap.size v W ∧ W.length ≤ k ∧ Below w.heap.size w wr ∧ LInv s.data.toList W b k ∧ LEnd s.data.toList b k) (fun _ _ i _ => s.size - (intOf i).toNat)
        case atStart => exact ⟨0, 0, [], Nat.zero_le _, Nat.le_refl _, rfl, rfl, StrsAt.nil _ _, Nat.le_refl _, Below.refl _ _, LInv.start _, .inl rfl⟩
        case round =>
          obtain ⟨k, b, W, hk, hbk, rfl, rfl, hown, hW, hbl, hwd, hle⟩ := hrel
          by_cases hlt : k < s.size
          · by_cases hsp : s[k] = 10
            · have ts : ((s[k].toNat : Int) == 10) = true := by rw [hsp]; rfl
              have hnext := LInv.feed hwd (by omega) hsp
              have hx : Hid (s.extract b k = bs (part s.data.toList b k)) := extract_bs s b k
              clear hsp hwd hle
              go_wp2_with (at_builtin; go_must (refine wpList_append_own _ rfl _ _ 39 rfl w.heap.size 9 i0 (.string ByteArray.empty) 1 16 Tryz.underlying39 hi hz0 hz1 hz2 rfl (by decide) _ _ _ rfl (World.ownsRow.alloc hown _) ⟨wr.heap.size, 0, none⟩ 1 1 [.string (s.extract b k)] rfl rfl (cell_one_new _ _ _) (fun x hx => by simp at hx; subst hx; rfl) (by unfold maxLen; omega) (by omega) (by have := hbl.size; simp; omega) ?_); intro v' w1 hown' hgrow _)
              have hpush := StrsAt.push (by rw [← hx.out]; exact hown')
              have hb2 := (hbl.alloc hbl.size _).grown hgrow (by have := hbl.size; simp; omega) (fun k hk => (World.ownsRow.lt hown k hk).1)
              clear hown' hgrow hown hbl
              go_wp2
              go_roundw
              case rel => exact ⟨k + 1, k + 1, _, by omega, by omega, by go_num, by go_num, hpush, by simp; omega, hb2, hnext, .inl rfl⟩
              case measure => simp [intOf] <;> omega
            · have ts : ((s[k].toNat : Int) == 10) = false := by
                rw [beq_eq_false_iff_ne]; intro e; exact hsp (UInt8.toNat_inj.1 (by show s[k].toNat = 10; omega))
              by_cases ht : isT s[k] = true
              · have hnext := LInv.text hwd hbk (by omega) hsp ht
                have hle2 : LEnd s.data.toList b (k + 1) := .inr ⟨by omega, fun _ => hsp⟩
                have hb := of_decide_eq_true ht
                obtain ⟨hb1, hb2⟩ := hb
                have c1 : (32 : Int) ≤ (s[k].toNat : Int) := by omega
                have c2 : (s[k].toNat : Int) ≤ 126 := by omega
                clear hsp ht hwd hle hb1 hb2
                go_wp2
                go_roundw
                case rel => exact ⟨k + 1, b, W, by omega, by omega, by go_num, rfl, hown, by omega, hbl, hnext, hle2⟩
                case measure => simp [intOf] <;> omega
              · have e : r = none := by rw [← HR.out]; exact LInv.foreign hwd (by omega) hsp (Bool.eq_false_iff.2 ht)
                subst e
                have hb := of_decide_eq_false (Bool.eq_false_iff.2 ht)
                by_cases hlo : s[k].toNat < 32
                · have c1 : decide ((s[k].toNat : Int) < 32) = true := decide_eq_true (by omega)
                  clear hsp ht hwd hb
                  go_wp2
                  go_ret2
                  exact ⟨_, rfl, StrsAt.nil _ _, hbl⟩
                · have c1 : decide ((s[k].toNat : Int) < 32) = false := decide_eq_false (by omega)
                  have c2 : decide (126 < (s[k].toNat : Int)) = true := decide_eq_true (by omega)
                  clear hsp ht hwd hb
                  go_wp2
                  go_ret2
                  exact ⟨_, rfl, StrsAt.nil _ _, hbl⟩
          · have hks : k = s.size := by omega
            subst hks
            have hbb : b = s.size := LEnd.done hle (by omega) HE.out
            subst hbb
            have e : r = some W := by rw [← HR.out]; exact LInv.done hwd (by omega)
            subst e
            clear hwd hle
            go_wp2
            go_ret2
            exact ⟨_, rfl, hown, hbl⟩
      · have t3 : ((s[s.size - 1].toNat : Int) != 10) = true := by
          rw [bne_iff_ne]; intro e; exact hend (UInt8.toNat_inj.1 (by show s[s.size - 1].toNat = 10; omega))
        have e : r = none := by rw [← hr]; exact lines_last (by omega) hend
        subst e
        clear hr hend
        go_enter Tryz.func39, Tryz.ntmps39
        go_wp2
        go_ret2
        exact ⟨_, rfl, StrsAt.nil _ _, Below.refl _ _⟩
end Go.Proofs.YthdjpmiohfaphaaGreatDoor.lex
