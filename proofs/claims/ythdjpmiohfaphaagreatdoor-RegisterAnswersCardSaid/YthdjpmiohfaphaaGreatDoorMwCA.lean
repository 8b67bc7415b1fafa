/- The walks of layer 2, first part: isTime, below, Make, Split, twoDigits, Print. Condition: the tables hold what their texts lay. -/
import Derived.Test.YthdjpmiohfaphaaGreatDoorCalM
import Derived.Test.YthdjpmiohfaphaaGreatDoorNumP
import Derived.BigGuardPart
namespace Go.Proofs.YthdjpmiohfaphaaGreatDoor.cal
open Go.RowKit lex

theorem istime_is (t : Int) (b : Bool) (hb : isTm t = b) (w : World) :
    Calls Tryz.prog 83 #[.int .i64 t] w fun e w' => e = .returned (.bool b) ∧ w = w' := by
  unfold isTm at hb
  have hr : t < 0 ∨ (0 ≤ t ∧ t ≤ 16777216) ∨ (0 ≤ t ∧ 16777216 < t) := by omega
  rcases hr with r1 | ⟨r1, r2⟩ | ⟨r1, r2⟩
  · rw [decide_eq_false (by omega)] at hb
    subst hb
    go_enter Tryz.func83, Tryz.ntmps83
    go_wp2
    all_goals (first | (exfalso; omega) | (go_ret; exact ⟨ret_bool (by first | rfl | exact decide_eq_true (by omega) | exact decide_eq_false (by omega)), rfl⟩))
  · rw [decide_eq_true (by omega)] at hb
    subst hb
    go_enter Tryz.func83, Tryz.ntmps83
    go_wp2
    all_goals (first | (exfalso; omega) | (go_ret; exact ⟨ret_bool (by first | rfl | exact decide_eq_true (by omega) | exact decide_eq_false (by omega)), rfl⟩))
  · rw [decide_eq_false (by omega)] at hb
    subst hb
    go_enter Tryz.func83, Tryz.ntmps83
    go_wp2
    all_goals (first | (exfalso; omega) | (go_ret; exact ⟨ret_bool (by first | rfl | exact decide_eq_true (by omega) | exact decide_eq_false (by omega)), rfl⟩))
theorem below_is (n m : Int) (b : Bool) (hb : decide (0 ≤ n ∧ n < m) = b) (w : World) :
    Calls Tryz.prog 88 #[.int .i64 n, .int .i64 m] w fun e w' => e = .returned (.bool b) ∧ w = w' := by
  have hr : n < 0 ∨ (0 ≤ n ∧ n < m) ∨ (0 ≤ n ∧ m ≤ n) := by omega
  rcases hr with r1 | ⟨r1, r2⟩ | ⟨r1, r2⟩
  · rw [decide_eq_false (by omega)] at hb
    subst hb
    go_enter Tryz.func88, Tryz.ntmps88
    go_wp2
    all_goals (first | (exfalso; omega) | (go_ret; exact ⟨ret_bool (by first | rfl | exact decide_eq_true (by omega) | exact decide_eq_false (by omega)), rfl⟩))
  · rw [decide_eq_true (by omega)] at hb
    subst hb
    go_enter Tryz.func88, Tryz.ntmps88
    go_wp2
    all_goals (first | (exfalso; omega) | (go_ret; exact ⟨ret_bool (by first | rfl | exact decide_eq_true (by omega) | exact decide_eq_false (by omega)), rfl⟩))
  · rw [decide_eq_false (by omega)] at hb
    subst hb
    go_enter Tryz.func88, Tryz.ntmps88
    go_wp2
    all_goals (first | (exfalso; omega) | (go_ret; exact ⟨ret_bool (by first | rfl | exact decide_eq_true (by omega) | exact decide_eq_false (by omega)), rfl⟩))

theorem ret_pair {a b : Int} {x y : Int} (h : a = b) (g : x = y) : Ending.returned (.tuple #[.int .i64 a, .int .i64 x]) = .returned (.tuple #[.int .i64 b, .int .i64 y]) := by rw [h, g]

/-- Make of a time -/
theorem make_ok (d h m : Int) (ho : mkOk d h m = true) (w : World) :
    Calls Tryz.prog 81 #[.int .i64 d, .int .i64 h, .int .i64 m] w fun e w' => e = .returned (.tuple #[.int .i64 (1440 * d + 60 * h + m), .int .i64 0]) ∧ w = w' := by
  unfold mkOk at ho
  obtain ⟨h1, h2, h3, h4, h5, h6⟩ := of_decide_eq_true ho
  clear ho
  have b1 := Lib.hid (fun w => below_is d 11651 true (decide_eq_true (by omega)) w)
  have b2 := Lib.hid (fun w => below_is h 24 true (decide_eq_true (by omega)) w)
  have b3 := Lib.hid (fun w => below_is m 60 true (decide_eq_true (by omega)) w)
  have b4 := Lib.hid (fun w => istime_is (d * 1440 + h * 60 + m) true (decide_eq_true (by omega)) w)
  have e1 := Lib.hid (show d * 1440 + h * 60 + m = 1440 * d + 60 * h + m from by omega)
  go_enter Tryz.func81, Tryz.ntmps81
  go_wp2_with fail
  refine (b1.out _).mono ?_; rintro e w' ⟨rfl, rfl⟩
  go_wp2_with fail
  refine (b2.out _).mono ?_; rintro e w' ⟨rfl, rfl⟩
  go_wp2_with fail
  refine (b3.out _).mono ?_; rintro e w' ⟨rfl, rfl⟩
  go_wp2_with fail
  refine (b4.out _).mono ?_; rintro e w' ⟨rfl, rfl⟩
  go_wp2
  go_ret2
  exact ⟨ret_pair e1.out rfl, rfl⟩
theorem make_no (d h m : Int) (ho : mkOk d h m = false) (w : World) :
    Calls Tryz.prog 81 #[.int .i64 d, .int .i64 h, .int .i64 m] w fun e w' => e = .returned (.tuple #[.int .i64 0, .int .i64 5]) ∧ w = w' := by
  unfold mkOk at ho
  have ho := of_decide_eq_false ho
  by_cases c1 : 0 ≤ d ∧ d < 11651
  · have b1 := Lib.hid (fun w => below_is d 11651 true (decide_eq_true c1) w)
    by_cases c2 : 0 ≤ h ∧ h < 24
    · have b2 := Lib.hid (fun w => below_is h 24 true (decide_eq_true c2) w)
      by_cases c3 : 0 ≤ m ∧ m < 60
      · have b3 := Lib.hid (fun w => below_is m 60 true (decide_eq_true c3) w)
        have b4 := Lib.hid (fun w => istime_is (d * 1440 + h * 60 + m) false (decide_eq_false (by omega)) w)
        obtain ⟨c11, c12⟩ := c1
        obtain ⟨c21, c22⟩ := c2
        obtain ⟨c31, c32⟩ := c3
        clear ho
        go_enter Tryz.func81, Tryz.ntmps81
        go_wp2_with fail
        refine (b1.out _).mono ?_; rintro e w' ⟨rfl, rfl⟩
        go_wp2_with fail
        refine (b2.out _).mono ?_; rintro e w' ⟨rfl, rfl⟩
        go_wp2_with fail
        refine (b3.out _).mono ?_; rintro e w' ⟨rfl, rfl⟩
        go_wp2_with fail
        refine (b4.out _).mono ?_; rintro e w' ⟨rfl, rfl⟩
        go_wp2
        go_ret2
        exact ⟨rfl, rfl⟩
      · have b3 := Lib.hid (fun w => below_is m 60 false (decide_eq_false c3) w)
        clear ho c1 c2 c3
        go_enter Tryz.func81, Tryz.ntmps81
        go_wp2_with fail
        refine (b1.out _).mono ?_; rintro e w' ⟨rfl, rfl⟩
        go_wp2_with fail
        refine (b2.out _).mono ?_; rintro e w' ⟨rfl, rfl⟩
        go_wp2_with fail
        refine (b3.out _).mono ?_; rintro e w' ⟨rfl, rfl⟩
        go_wp2
        go_ret2
        exact ⟨rfl, rfl⟩
    · have b2 := Lib.hid (fun w => below_is h 24 false (decide_eq_false c2) w)
      clear ho c1 c2
      go_enter Tryz.func81, Tryz.ntmps81
      go_wp2_with fail
      refine (b1.out _).mono ?_; rintro e w' ⟨rfl, rfl⟩
      go_wp2_with fail
      refine (b2.out _).mono ?_; rintro e w' ⟨rfl, rfl⟩
      go_wp2
      go_ret2
      exact ⟨rfl, rfl⟩
  · have b1 := Lib.hid (fun w => below_is d 11651 false (decide_eq_false c1) w)
    clear ho c1
    go_enter Tryz.func81, Tryz.ntmps81
    go_wp2_with fail
    refine (b1.out _).mono ?_; rintro e w' ⟨rfl, rfl⟩
    go_wp2
    go_ret2
    exact ⟨rfl, rfl⟩
theorem make_is (d h m v x : Int) (hv : mkV d h m = v) (hx : mkE d h m = x) (w : World) :
    Calls Tryz.prog 81 #[.int .i64 d, .int .i64 h, .int .i64 m] w fun e w' => e = .returned (.tuple #[.int .i64 v, .int .i64 x]) ∧ w = w' := by
  subst hv hx
  unfold mkV mkE
  by_cases ho : mkOk d h m = true
  · rw [if_pos ho, if_pos ho]; exact make_ok d h m ho w
  · rw [if_neg ho, if_neg ho]; exact make_no d h m (Bool.eq_false_iff.2 ho) w

theorem split_ok (t : Int) (ho : isTm t = true) (w : World) :
    Calls Tryz.prog 74 #[.int .i64 t] w fun e w' => e = .returned (.tuple #[.int .i64 (t / 1440), .int .i64 (t % 1440 / 60), .int .i64 (t % 60), .bool true]) ∧ w = w' := by
  have b1 := Lib.hid (fun w => istime_is t true ho w)
  unfold isTm at ho
  obtain ⟨h1, h2⟩ := of_decide_eq_true ho
  clear ho
  go_enter Tryz.func74, Tryz.ntmps74
  go_wp2_with fail
  refine (b1.out _).mono ?_; rintro e w' ⟨rfl, rfl⟩
  go_wp2
  exact bodyPost_ret (v := .tuple #[.int .i64 (t / 1440), .int .i64 (t % 1440 / 60), .int .i64 (t % 60), .bool true]) (by simp [results, Tryz.results74, go_sem]) rfl ⟨rfl, rfl⟩
theorem split_no (t : Int) (ho : isTm t = false) (w : World) :
    Calls Tryz.prog 74 #[.int .i64 t] w fun e w' => e = .returned (.tuple #[.int .i64 0, .int .i64 0, .int .i64 0, .bool false]) ∧ w = w' := by
  have b1 := Lib.hid (fun w => istime_is t false ho w)
  clear ho
  go_enter Tryz.func74, Tryz.ntmps74
  go_wp2_with fail
  refine (b1.out _).mono ?_; rintro e w' ⟨rfl, rfl⟩
  go_wp2
  exact bodyPost_ret (v := .tuple #[.int .i64 0, .int .i64 0, .int .i64 0, .bool false]) (by simp [results, Tryz.results74, go_sem]) rfl ⟨rfl, rfl⟩
end Go.Proofs.YthdjpmiohfaphaaGreatDoor.cal
