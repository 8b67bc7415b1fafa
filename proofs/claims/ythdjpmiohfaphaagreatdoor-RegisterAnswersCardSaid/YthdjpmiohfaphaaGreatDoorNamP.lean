/- The walks of layer 1 that later layers use: the class of a byte, read off the table; Name; the reference's Name. Condition: the table 'classes' holds what its text lays. -/
import Derived.Test.YthdjpmiohfaphaaGreatDoorNamC
import Derived.BigGuardPart
namespace Go.Proofs.YthdjpmiohfaphaaGreatDoor.lex
open Go.RowKit

set_option maxRecDepth 100000 in
set_option maxHeartbeats 1000000 in
theorem name_any (s : ByteArray) (w : World) (h : HasClasses w) (hs : s.size ≤ maxLen) :
    Calls Tryz.prog 44 #[.string s] w fun e w' => e = .returned (.bool (nameB s.data.toList)) ∧ w = w' := by
  unfold maxLen at hs
  have H := Lib.hid h
  have hl : s.data.toList.length = s.size := by simp
  clear h
  by_cases e0 : s.size = 0
  · have hb := nameB_empty (hl.trans e0)
    rw [hb]
    have z1 : s.toList = [] := by rw [Lib.toList_data]; exact List.eq_nil_of_length_eq_zero (hl.trans e0)
    have z2 : s.toList.isEmpty = true := by rw [z1]; rfl
    clear hb hl
    go_enter Tryz.func44, Tryz.ntmps44
    go_wp2
    go_ret
    exact ⟨rfl, rfl⟩
  · have z1 : ¬ s.toList = [] := by rw [Lib.toList_data]; intro e; rw [e] at hl; exact e0 hl.symm
    have z2 : s.toList.isEmpty = false := by rw [List.isEmpty_eq_false_iff]; exact z1
    have e0' : 0 < s.size := by omega
    by_cases e1 : 12 < s.size
    · rw [nameB_long (by omega)]
      clear hl
      go_enter Tryz.func44, Tryz.ntmps44
      go_wp2
      go_ret
      exact ⟨rfl, rfl⟩
    · by_cases e2 : isL s[0] = true
      · have HC := Lib.hid (cls_letter e2)
        have HL := Lib.hid e2
        clear e2
        go_enter Tryz.func44, Tryz.ntmps44
        go_wp2_with (go_at_call 57; refine (classOf_is _ 5 HC.out _ H.out).mono ?_; rintro e w' ⟨rfl, rfl⟩)
        go_loop [19] (fun i => ∃ (k : Nat), k ≤ s.size ∧ i = .int .i64 k ∧ Hid (∀ j (hj : j < s.data.toList.length), j < k → isN s.data.toList[j] = true)) (fun i => s.size - (intOf i).toNat)
        case atStart => exact ⟨0, Nat.zero_le _, rfl, fun j hj h => absurd h (Nat.not_lt_zero j)⟩
        case round =>
          obtain ⟨k, hk, rfl, hd⟩ := hrel
          by_cases hlt : k < s.size
          · by_cases hdig : isN s[k] = true
            · have HD := Lib.hid hdig
              obtain ⟨n, hcn⟩ : ∃ n, clsI s[k].toNat = n := ⟨_, rfl⟩
              have HC : 4 ≤ n := by rw [← hcn]; exact cls_name hdig
              have HN := Lib.hid hcn
              clear hcn hdig
              go_wp2_with (go_at_call 57; refine (classOf_is _ n HN.out _ H.out).mono ?_; rintro e w' ⟨rfl, rfl⟩)
              go_round
              case rel =>
                refine ⟨k + 1, by omega, by go_num, ?_⟩
                intro j hj hjk
                by_cases e : j = k
                · subst e; exact HD.out
                · exact hd.out j hj (by omega)
              case measure => simp [intOf]; omega
            · have hn := Lib.hid (nameB_other (l := s.data.toList) (k := k) (by omega) (Bool.eq_false_iff.2 hdig))
              obtain ⟨n, hcn⟩ : ∃ n, clsI s[k].toNat = n := ⟨_, rfl⟩
              have HC : n < 4 := by rw [← hcn]; exact cls_not_name (Bool.eq_false_iff.2 hdig)
              have HN := Lib.hid hcn
              clear hcn hdig
              go_wp2_with (go_at_call 57; refine (classOf_is _ n HN.out _ H.out).mono ?_; rintro e w' ⟨rfl, rfl⟩)
              go_ret
              exact ⟨ret_bool hn.out.symm, rfl⟩
          · have hy := Lib.hid (nameB_yes (l := s.data.toList) (by omega) (by omega) HL.out (fun j hj => hd.out j hj (by omega)))
            go_wp2
            go_ret
            exact ⟨ret_bool hy.out.symm, rfl⟩
      · rw [nameB_first (l := s.data.toList) (by omega) (Bool.eq_false_iff.2 e2)]
        obtain ⟨n, hcn⟩ : ∃ n, clsI s[0].toNat = n := ⟨_, rfl⟩
        have hne : n ≠ 5 := by rw [← hcn]; exact cls_not_letter (Bool.eq_false_iff.2 e2)
        have HC : (n != 5) = true := by rw [bne_iff_ne]; exact hne
        have HN := Lib.hid hcn
        clear hcn hne e2
        go_enter Tryz.func44, Tryz.ntmps44
        go_wp2_with (go_at_call 57; refine (classOf_is _ n HN.out _ H.out).mono ?_; rintro e w' ⟨rfl, rfl⟩)
        go_ret
        exact ⟨rfl, rfl⟩

theorem name_at (s : ByteArray) (b : Bool) (w : World) (h : HasClasses w) (hs : s.size ≤ maxLen) (hb : nameB s.data.toList = b) :
    Calls Tryz.prog 44 #[.string s] w fun e w' => e = .returned (.bool b) ∧ w = w' := by
  subst hb; exact name_any s w h hs
set_option maxRecDepth 100000 in
theorem digit_int (n : Int) (b : Bool) (hb : decide (48 ≤ n ∧ n ≤ 57) = b) (w : World) :
    Calls Tryz.prog 63 #[.int .u8 n] w fun e w' => e = .returned (.bool b) ∧ w = w' := by
  have hr : n < 48 ∨ (48 ≤ n ∧ n ≤ 57) ∨ (48 ≤ n ∧ 57 < n) := by omega
  rcases hr with hr | ⟨r1, r2⟩ | ⟨r1, r2⟩
  · rw [decide_eq_false (by omega)] at hb
    subst hb
    go_enter Tryz.func63, Tryz.ntmps63
    go_wp2
    all_goals (first | (exfalso; omega) | (go_ret; exact ⟨ret_bool (by first | rfl | exact decide_eq_true (by omega) | exact decide_eq_false (by omega)), rfl⟩))
  · rw [decide_eq_true (by omega)] at hb
    subst hb
    go_enter Tryz.func63, Tryz.ntmps63
    go_wp2
    all_goals (first | (exfalso; omega) | (go_ret; exact ⟨ret_bool (by first | rfl | exact decide_eq_true (by omega) | exact decide_eq_false (by omega)), rfl⟩))
  · rw [decide_eq_false (by omega)] at hb
    subst hb
    go_enter Tryz.func63, Tryz.ntmps63
    go_wp2
    all_goals (first | (exfalso; omega) | (go_ret; exact ⟨ret_bool (by first | rfl | exact decide_eq_true (by omega) | exact decide_eq_false (by omega)), rfl⟩))
set_option maxRecDepth 100000 in
theorem letter_int (n : Int) (b : Bool) (hb : decide ((65 ≤ n ∧ n ≤ 90) ∨ (97 ≤ n ∧ n ≤ 122)) = b) (w : World) :
    Calls Tryz.prog 62 #[.int .u8 n] w fun e w' => e = .returned (.bool b) ∧ w = w' := by
  have hr : n < 65 ∨ (65 ≤ n ∧ n ≤ 90) ∨ (90 < n ∧ n < 97) ∨ (97 ≤ n ∧ n ≤ 122) ∨ 122 < n := by omega
  rcases hr with r1 | ⟨r1, r2⟩ | ⟨r1, r2⟩ | ⟨r1, r2⟩ | r1
  · rw [decide_eq_false (by omega)] at hb
    subst hb
    go_enter Tryz.func62, Tryz.ntmps62
    go_wp2
    all_goals (first | (exfalso; omega) | (go_ret; exact ⟨ret_bool (by first | rfl | exact decide_eq_true (by omega) | exact decide_eq_false (by omega)), rfl⟩))
  · rw [decide_eq_true (by omega)] at hb
    subst hb
    go_enter Tryz.func62, Tryz.ntmps62
    go_wp2
    all_goals (first | (exfalso; omega) | (go_ret; exact ⟨ret_bool (by first | rfl | exact decide_eq_true (by omega) | exact decide_eq_false (by omega)), rfl⟩))
  · rw [decide_eq_false (by omega)] at hb
    subst hb
    go_enter Tryz.func62, Tryz.ntmps62
    go_wp2
    all_goals (first | (exfalso; omega) | (go_ret; exact ⟨ret_bool (by first | rfl | exact decide_eq_true (by omega) | exact decide_eq_false (by omega)), rfl⟩))
  · rw [decide_eq_true (by omega)] at hb
    subst hb
    go_enter Tryz.func62, Tryz.ntmps62
    go_wp2
    all_goals (first | (exfalso; omega) | (go_ret; exact ⟨ret_bool (by first | rfl | exact decide_eq_true (by omega) | exact decide_eq_false (by omega)), rfl⟩))
  · rw [decide_eq_false (by omega)] at hb
    subst hb
    go_enter Tryz.func62, Tryz.ntmps62
    go_wp2
    all_goals (first | (exfalso; omega) | (go_ret; exact ⟨ret_bool (by first | rfl | exact decide_eq_true (by omega) | exact decide_eq_false (by omega)), rfl⟩))
theorem digit_any (c : UInt8) (w : World) :
    Calls Tryz.prog 63 #[.int .u8 (c.toNat : Int)] w fun e w' => e = .returned (.bool (isD c)) ∧ w = w' :=
  digit_int _ _ (by unfold isD; rw [decide_eq_decide]; omega) w
theorem letter_any (c : UInt8) (w : World) :
    Calls Tryz.prog 62 #[.int .u8 (c.toNat : Int)] w fun e w' => e = .returned (.bool (isL c)) ∧ w = w' :=
  letter_int _ _ (by unfold isL; rw [decide_eq_decide]; omega) w
theorem letter_is (c : UInt8) (b : Bool) (hb : isL c = b) (w : World) :
    Calls Tryz.prog 62 #[.int .u8 (c.toNat : Int)] w fun e w' => e = .returned (.bool b) ∧ w = w' := by subst hb; exact letter_any c w
theorem digit_is (c : UInt8) (b : Bool) (hb : isD c = b) (w : World) :
    Calls Tryz.prog 63 #[.int .u8 (c.toNat : Int)] w fun e w' => e = .returned (.bool b) ∧ w = w' := by subst hb; exact digit_any c w

set_option maxRecDepth 100000 in
set_option maxHeartbeats 1000000 in
theorem rname_any (s : ByteArray) (w : World) (hs : s.size ≤ maxLen) :
    Calls Tryz.prog 47 #[.string s] w fun e w' => e = .returned (.bool (nameB s.data.toList)) ∧ w = w' := by
  unfold maxLen at hs
  have hl : s.data.toList.length = s.size := by simp
  by_cases e0 : s.size = 0
  · rw [nameB_empty (hl.trans e0)]
    have t1 : decide ((s.size : Int) < 1) = true := decide_eq_true (by omega)
    clear hl
    go_enter Tryz.func47, Tryz.ntmps47
    go_wp2
    go_ret
    exact ⟨rfl, rfl⟩
  · have e0' : 0 < s.size := by omega
    have t1 : decide ((s.size : Int) < 1) = false := decide_eq_false (by omega)
    by_cases e1 : 12 < s.size
    · rw [nameB_long (by omega)]
      have t2 : decide (12 < (s.size : Int)) = true := decide_eq_true (by omega)
      clear hl
      go_enter Tryz.func47, Tryz.ntmps47
      go_wp2
      go_ret
      exact ⟨rfl, rfl⟩
    · have t2 : decide (12 < (s.size : Int)) = false := decide_eq_false (by omega)
      by_cases e2 : isL s[0] = true
      · have HL := Lib.hid e2
        clear e2
        go_enter Tryz.func47, Tryz.ntmps47
        go_wp2_with (go_at_call 62; refine (letter_is _ true HL.out _).mono ?_; rintro e w' ⟨rfl, rfl⟩)
        go_loop [3] (fun i => ∃ (k : Nat), k ≤ s.size ∧ i = .int .i64 k ∧ Hid (∀ j (hj : j < s.data.toList.length), j < k → isN s.data.toList[j] = true)) (fun i => s.size - (intOf i).toNat)
        case atStart => exact ⟨0, Nat.zero_le _, rfl, fun j hj h => absurd h (Nat.not_lt_zero j)⟩
        case round =>
          obtain ⟨k, hk, rfl, hd⟩ := hrel
          by_cases hlt : k < s.size
          · by_cases hdig : isN s[k] = true
            · have HD := Lib.hid hdig
              clear hdig
              have goal2 : Hid (∀ j (hj : j < s.data.toList.length), j < k + 1 → isN s.data.toList[j] = true) := by
                intro j hj hjk
                by_cases e : j = k
                · subst e; exact HD.out
                · exact hd.out j hj (by omega)
              obtain ⟨bl, hbl⟩ : ∃ b, isL s[k] = b := ⟨_, rfl⟩
              obtain ⟨bd, hbd⟩ : ∃ b, isD s[k] = b := ⟨_, rfl⟩
              have h95 : bl = true ∨ bl = false ∧ bd = true ∨ bl = false ∧ bd = false ∧ ((s[k].toNat : Int) != 95) = false := by
                have := HD.out
                unfold isN at this
                rw [hbl, hbd] at this
                cases bl
                · cases bd
                  · right; right
                    refine ⟨rfl, rfl, ?_⟩
                    have h := of_decide_eq_true (by simpa using this : decide (s[k].toNat = 95) = true)
                    rw [h]; rfl
                  · right; left; exact ⟨rfl, rfl⟩
                · left; rfl
              have HBL := Lib.hid hbl
              have HBD := Lib.hid hbd
              clear hbl hbd
              rcases h95 with rfl | ⟨rfl, rfl⟩ | ⟨rfl, rfl, h95⟩
              all_goals
                go_wp2_with (first | (go_at_call 62; refine (letter_is _ _ HBL.out _).mono ?_; rintro e w' ⟨rfl, rfl⟩) | (go_at_call 63; refine (digit_is _ _ HBD.out _).mono ?_; rintro e w' ⟨rfl, rfl⟩))
                go_round
                case rel => exact ⟨k + 1, by omega, by go_num, goal2⟩
                case measure => simp [intOf]; omega
            · have hn := Lib.hid (nameB_other (l := s.data.toList) (k := k) (by omega) (Bool.eq_false_iff.2 hdig))
              have hno := Bool.eq_false_iff.2 hdig
              unfold isN at hno
              simp only [Bool.or_eq_false_iff, decide_eq_false_iff_not] at hno
              obtain ⟨⟨g1, g2⟩, g3⟩ := hno
              have h95 : ((s[k].toNat : Int) != 95) = true := by rw [bne_iff_ne]; omega
              have G1 := Lib.hid g1
              have G2 := Lib.hid g2
              clear g1 g2 g3 hdig
              go_wp2_with (first | (go_at_call 62; refine (letter_is _ _ G1.out _).mono ?_; rintro e w' ⟨rfl, rfl⟩) | (go_at_call 63; refine (digit_is _ _ G2.out _).mono ?_; rintro e w' ⟨rfl, rfl⟩))
              go_ret
              exact ⟨ret_bool hn.out.symm, rfl⟩
          · have hy := Lib.hid (nameB_yes (l := s.data.toList) (by omega) (by omega) HL.out (fun j hj => hd.out j hj (by omega)))
            go_wp2
            go_ret
            exact ⟨ret_bool hy.out.symm, rfl⟩
      · rw [nameB_first (l := s.data.toList) (by omega) (Bool.eq_false_iff.2 e2)]
        have HL := Lib.hid (Bool.eq_false_iff.2 e2)
        clear e2
        go_enter Tryz.func47, Tryz.ntmps47
        go_wp2_with (go_at_call 62; refine (letter_is _ _ HL.out _).mono ?_; rintro e w' ⟨rfl, rfl⟩)
        go_ret
        exact ⟨rfl, rfl⟩
end Go.Proofs.YthdjpmiohfaphaaGreatDoor.lex
