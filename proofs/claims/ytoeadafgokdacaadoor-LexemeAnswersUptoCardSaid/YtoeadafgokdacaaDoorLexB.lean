/- The walks of layer 1, second part: Name, Text, and the statements' own sanity check 'awake'. Condition: the tables 'classes' and strconv's powers of ten hold what their texts lay. -/
import Derived.Test.YtoeadafgokdacaaDoorLexA
import Derived.Test.YtoeadafgokdacaaDoorShelf
import Derived.Test.YtoeadafgokdacaaDoorKit
import Derived.Lib.AppendIntMem
namespace Go.Proofs.YtoeadafgokdacaaDoor.lex
open Go.RowKit

/-- what every call of layer 1 reads: the two tables -/
structure Tabs (w : World) : Prop where
  cls : HasClasses w
  pow : Lib.TabIs Tryd.prog w "internal/strconv.uint64pow10" .u64 Lib.pow10Tab
theorem gCls : Tryd.prog.globalNamed "permitoffice/lexeme.classes" = some 0 := by kernel_rfl
theorem gPow : Tryd.prog.globalNamed "internal/strconv.uint64pow10" = some 1 := by kernel_rfl
theorem Tabs.of {w : World} {zs ps : List Int} (hz : zs = (List.range 128).map clsI) (hp : ps = Lib.pow10Tab) (hc : Lib.TabIs Tryd.prog w "permitoffice/lexeme.classes" .u8 zs) (hw : Lib.TabIs Tryd.prog w "internal/strconv.uint64pow10" .u64 ps) : Tabs w := by
  subst hz hp
  refine ⟨fun i hi => ?_, hw⟩
  have := hc.cell gCls i (by simpa using hi)
  rw [this, List.getD_eq_getElem?_getD, List.getElem?_map, List.getElem?_range hi]; rfl
theorem Tabs.below {w w' : World} (h : Tabs w) (hb : Below w.heap.size w w') : Tabs w' where
  cls := fun i hi => by rw [hb.cell (p := ⟨0, i, none⟩) (World.block_lt_of_cell? w _ (h.cls i hi))]; exact h.cls i hi
  pow := var?_below hb gPow (World.block_lt_of_cell? w ⟨1, 0, none⟩ (h.pow.cell gPow 0 (by rw [Lib.pow10Tab_length]; decide))) h.pow

set_option maxRecDepth 100000 in
set_option maxHeartbeats 1000000 in
theorem name_any (s : ByteArray) (w : World) (h : HasClasses w) (hs : s.size ≤ maxLen) :
    Calls Tryd.prog 13 #[.string s] w fun e w' => e = .returned (.bool (nameB s.data.toList)) ∧ w = w' := by
  unfold maxLen at hs
  have H := Lib.hid h
  have hl : s.data.toList.length = s.size := by simp
  clear h
  by_cases e0 : s.size = 0
  · have hb := nameB_empty (hl.trans e0)
    rw [hb]
    have z1 : s.toList = [] := by rw [Lib.toList_data]; exact List.eq_nil_of_length_eq_zero (hl.trans e0)
    have z2 : s.toList.isEmpty = true := by rw [z1]; rfl
    clear hb hl
    go_enter Tryd.func13, Tryd.ntmps13
    go_wp2
    go_ret
    exact ⟨rfl, rfl⟩
  · have z1 : ¬ s.toList = [] := by rw [Lib.toList_data]; intro e; rw [e] at hl; exact e0 hl.symm
    have z2 : s.toList.isEmpty = false := by rw [List.isEmpty_eq_false_iff]; exact z1
    have e0' : 0 < s.size := by omega
    by_cases e1 : 12 < s.size
    · rw [nameB_long (by omega)]
      clear hl
      go_enter Tryd.func13, Tryd.ntmps13
      go_wp2
      go_ret
      exact ⟨rfl, rfl⟩
    · by_cases e2 : isL s[0] = true
      · have HC := Lib.hid (cls_letter e2)
        have HL := Lib.hid e2
        clear e2
        go_enter Tryd.func13, Tryd.ntmps13
        go_wp2_with (go_at_call 25; refine (classOf_is _ 5 HC.out _ H.out).mono ?_; rintro e w' ⟨rfl, rfl⟩)
        go_loop [19] (fun i => ∃ (k : Nat), k ≤ s.size ∧ i = .int .i64 k ∧ Hid (∀ j (hj : j < s.data.toList.length), j < k → isN s.data.toList[j] = true)) (fun i => s.size - (intOf i).toNat)
        case atStart => exact ⟨0, Nat.zero_le _, rfl, fun j hj h => absurd h (Nat.not_lt_zero j)⟩
        case round =>
          obtain ⟨k, hk, rfl, hd⟩ := hrel
          by_cases hlt : k < s.size
          · by_cases hdig : isN s[k] = true
            · have HD := Lib.hid hdig
              obtain ⟨n, hcn⟩ : ∃ n, clsI s[k].toNat = n := ⟨_, rfl⟩
              have HC : 4 ≤ n := by rw [← hcn]; exact cls_name hdig
              have HN := Lib.hid hcn
              clear hcn hdig
              go_wp2_with (go_at_call 25; refine (classOf_is _ n HN.out _ H.out).mono ?_; rintro e w' ⟨rfl, rfl⟩)
              go_round
              case rel =>
                refine ⟨k + 1, by omega, by go_num, ?_⟩
                intro j hj hjk
                by_cases e : j = k
                · subst e; exact HD.out
                · exact hd.out j hj (by omega)
              case measure => simp [intOf]; omega
            · have hn := Lib.hid (nameB_other (l := s.data.toList) (k := k) (by omega) (Bool.eq_false_iff.2 hdig))
              obtain ⟨n, hcn⟩ : ∃ n, clsI s[k].toNat = n := ⟨_, rfl⟩
              have HC : n < 4 := by rw [← hcn]; exact cls_not_name (Bool.eq_false_iff.2 hdig)
              have HN := Lib.hid hcn
              clear hcn hdig
              go_wp2_with (go_at_call 25; refine (classOf_is _ n HN.out _ H.out).mono ?_; rintro e w' ⟨rfl, rfl⟩)
              go_ret
              exact ⟨ret_bool hn.out.symm, rfl⟩
          · have hy := Lib.hid (nameB_yes (l := s.data.toList) (by omega) (by omega) HL.out (fun j hj => hd.out j hj (by omega)))
            go_wp2
            go_ret
            exact ⟨ret_bool hy.out.symm, rfl⟩
      · rw [nameB_first (l := s.data.toList) (by omega) (Bool.eq_false_iff.2 e2)]
        obtain ⟨n, hcn⟩ : ∃ n, clsI s[0].toNat = n := ⟨_, rfl⟩
        have hne : n ≠ 5 := by rw [← hcn]; exact cls_not_letter (Bool.eq_false_iff.2 e2)
        have HC : (n != 5) = true := by rw [bne_iff_ne]; exact hne
        have HN := Lib.hid hcn
        clear hcn hne e2
        go_enter Tryd.func13, Tryd.ntmps13
        go_wp2_with (go_at_call 25; refine (classOf_is _ n HN.out _ H.out).mono ?_; rintro e w' ⟨rfl, rfl⟩)
        go_ret
        exact ⟨rfl, rfl⟩

set_option maxRecDepth 100000 in
theorem text_any (n : Int) (w : World) (h : Tabs w) (h0 : -9223372036854775808 ≤ n) (h1 : n ≤ 9223372036854775807) :
    Calls Tryd.prog 18 #[.int .i64 n] w fun e w' => e = .returned (.string ⟨(Lib.itoa n).toArray⟩) ∧ Below w.heap.size w w' := by
  have H := Lib.hid h.pow
  clear h
  go_enter Tryd.func18, Tryd.ntmps18
  go_wp2_with (go_at_call 28; refine (Tryd.strconv_Itoa n h0 h1 _ H.out).mono ?_; rintro e w' ⟨rfl, k, os, rfl⟩)
  go_ret
  exact ⟨rfl, Lib.below_grow _ _ (Nat.le_refl _) _ _⟩

theorem number_at (s : ByteArray) (most : Int) (n : Int) (b : Bool) (w : World) (h : HasClasses w) (hs : s.size ≤ maxLen) (m0 : -9223372036854775808 ≤ most) (m1 : most ≤ 9223372036854775807) (hv : numV s.data.toList most = n) (hb : numB s.data.toList most = b) :
    Calls Tryd.prog 11 #[.string s, .int .i64 most] w fun e w' => e = .returned (.tuple #[.int .i64 n, .bool b]) ∧ w = w' := by
  subst hv hb; exact number_any s most w h hs m0 m1
theorem name_at (s : ByteArray) (b : Bool) (w : World) (h : HasClasses w) (hs : s.size ≤ maxLen) (hb : nameB s.data.toList = b) :
    Calls Tryd.prog 13 #[.string s] w fun e w' => e = .returned (.bool b) ∧ w = w' := by
  subst hb; exact name_any s w h hs
theorem itoa_12 : Lib.itoa (-12) = [45, 49, 50] := by
  show 45 :: Lib.decDigits 12 = _
  rw [Lib.decDigits_two (by decide) (by decide)]; rfl
theorem text_12 (w : World) (h : Tabs w) :
    Calls Tryd.prog 18 #[.int .i64 (-12)] w fun e w' => e = .returned (.string ⟨#[45, 49, 50]⟩) ∧ Below w.heap.size w w' :=
  (text_any (-12) w h (by decide) (by decide)).mono fun e w' ⟨he, hb⟩ => ⟨by rw [he, itoa_12], hb⟩
theorem small_07 : (ByteArray.mk #[48, 55]).size ≤ maxLen := by unfold maxLen; decide
theorem small_7 : (ByteArray.mk #[55]).size ≤ maxLen := by unfold maxLen; decide

set_option maxRecDepth 100000 in
theorem awake_any (w : World) (h : Tabs w) :
    Calls Tryd.prog 8 #[] w fun e w' => e = .returned (.bool true) ∧ Below w.heap.size w w' := by
  have c1 := number_at ⟨#[48, 55]⟩ 9 0 false w h.cls small_07 (by decide) (by decide) (by decide) (by decide)
  have c2 := number_at ⟨#[55]⟩ 9 7 true w h.cls small_7 (by decide) (by decide) (by decide) (by decide)
  have c3 := name_at ⟨#[81, 49]⟩ true w h.cls small_07 (by decide)
  have c4 := name_at ⟨#[49, 81]⟩ false w h.cls small_07 (by decide)
  have c5 := text_12 w h
  have C1 := Lib.hid c1
  have C2 := Lib.hid c2
  have C3 := Lib.hid c3
  have C4 := Lib.hid c4
  have C5 := Lib.hid c5
  clear c1 c2 c3 c4 c5 h
  go_enter Tryd.func8, Tryd.ntmps8
  go_wp2_with fail
  refine C1.out.mono ?_; rintro e w' ⟨rfl, rfl⟩
  go_wp2_with fail
  refine C2.out.mono ?_; rintro e w' ⟨rfl, rfl⟩
  go_wp2_with fail
  refine C3.out.mono ?_; rintro e w' ⟨rfl, rfl⟩
  go_wp2_with fail
  refine C4.out.mono ?_; rintro e w' ⟨rfl, rfl⟩
  go_wp2_with fail
  refine C5.out.mono ?_; rintro e w' ⟨rfl, hb⟩
  go_wp2
  go_ret
  exact ⟨rfl, hb⟩
end Go.Proofs.YtoeadafgokdacaaDoor.lex
