/- For every t and every which CalendarShifts returns true: shifts follow each other, and one begins at 6:00. Condition: the listed tables hold what the program's text lays (the card ties that). -/
import Derived.Test.YticehhmfbpjamaaDoorCalC
namespace Go.Proofs.YticehhmfbpjamaaDoor.cal
open Go.RowKit strs lex

/-- what Mod leaves -/
def ModPost (k : Int) (w : World) (e : Ending) (w' : World) : Prop := ∃ r : Int, e = .returned (.int .i64 r) ∧ 0 ≤ r ∧ r < k ∧ w = w'
theorem mod_any (n k : Int) (w : World) (k0 : 1 ≤ k) (k1 : k ≤ 4611686018427387904) (n0 : -9223372036854775808 ≤ n) (n1 : n ≤ 9223372036854775807) :
    Calls Tryd.prog 10 #[.int .i64 n, .int .i64 k] w (ModPost k w) := by
  obtain ⟨m, hm⟩ : ∃ m, n.tmod k = m := ⟨_, rfl⟩
  have m0 : -k < m := by rw [← hm]; exact Int.lt_tmod_of_pos n (by omega)
  have m1 : m < k := by rw [← hm]; exact Int.tmod_lt_of_pos n (by omega)
  obtain ⟨r, hr⟩ : ∃ r, (m + k) % k = r := ⟨_, rfl⟩
  have r0 : 0 ≤ r := by rw [← hr]; exact Int.emod_nonneg _ (by omega)
  have r1 : r < k := by rw [← hr]; exact Int.emod_lt_of_pos _ (by omega)
  have kz : k ≠ 0 := by omega
  go_enter Tryd.func10, Tryd.ntmps10
  go_wp2
  go_ret
  refine ⟨r, ?_, r0, r1, rfl⟩
  rw [hr]; rfl
theorem shift_at (t h k v : Int) (hk : 60 * h = k) (hh : shOk h = true) (t0 : 0 ≤ t) (t1 : t ≤ 16777216) (hv : (t - 360) / k = v) (w : World) :
    Calls Tryd.prog 17 #[.int .i64 t, .int .i64 h] w fun e w' => e = .returned (.tuple #[.int .i64 v, .int .i64 0]) ∧ Below w.heap.size w w' := by
  subst hk hv
  exact shift_ok t h hh (decide_eq_true ⟨t0, t1⟩) w
theorem four {w w1 w2 w3 w4 : World} (b1 : Below w.heap.size w w1) (b2 : Below w1.heap.size w1 w2) (b3 : Below w2.heap.size w2 w3) (b4 : Below w3.heap.size w3 w4) : Below w.heap.size w w4 :=
  ((b1.trans (b2.mono b1.size)).trans (b3.mono (Nat.le_trans b1.size b2.size))).trans (b4.mono (Nat.le_trans (Nat.le_trans b1.size b2.size) b3.size))

set_option maxRecDepth 100000 in
set_option maxHeartbeats 1000000 in
theorem shifts_0 (t n : Int) (w : World) (n0 : 0 ≤ n) (n1 : n ≤ 255) (hj : n % 8 = 0) (t0 : -9223372036854775808 ≤ t) (t1 : t ≤ 9223372036854775807) (h : CTabs w) :
    Calls Tryd.prog 5 #[.int .i64 t, .int .u8 n] w fun e w' => e = .returned (.bool true) ∧ Below w.heap.size w w' := by
  have H := Lib.hid h
  clear h
  go_enter Tryd.func5, Tryd.ntmps5
  go_wp2_with fail
  refine (mod_any t 16775716 _ (by omega) (by omega) t0 t1).mono ?_; rintro e w1 ⟨r, rfl, r0, r1, rfl⟩
  obtain ⟨a, ha⟩ : ∃ a, (r - 360) / 60 = a := ⟨_, rfl⟩
  have a0 : -6 ≤ a := by omega
  have a1 : a ≤ 300000 := by omega
  have C1 := Lib.hid (fun w => shift_at r 1 60 a (by decide) (by decide) (by omega) (by omega) ha w)
  have C2 := Lib.hid (fun w => shift_at (r + 60) 1 60 (a + 1) (by decide) (by decide) (by omega) (by omega) (by omega) w)
  have C4 := Lib.hid (fun w => shift_at 360 1 60 0 (by decide) (by decide) (by omega) (by omega) (by decide) w)
  by_cases hc : (r + 1 - 360) / 60 = a
  · have C3 := Lib.hid (fun w => shift_at (r + 1) 1 60 a (by decide) (by decide) (by omega) (by omega) hc w)
    clear ha hc
    go_wp2_with fail
    refine (C1.out _).mono ?_; rintro e w1 ⟨rfl, b1⟩
    go_wp2_with fail
    refine (C2.out _).mono ?_; rintro e w2 ⟨rfl, b2⟩
    go_wp2_with fail
    refine (C3.out _).mono ?_; rintro e w3 ⟨rfl, b3⟩
    go_wp2_with fail
    refine (C4.out _).mono ?_; rintro e w4 ⟨rfl, b4⟩
    have B4 := Lib.hid (((Below.refl w.heap.size w).alloc (Nat.le_refl _) _).trans ((four b1 b2 b3 b4).mono (by simp)))
    have H4 := Lib.hid (H.out.below B4.out)
    go_wp2_with fail
    refine (awake_any _ H4.out).mono ?_; rintro e w5 ⟨rfl, b5⟩
    go_wp2
    go_ret
    exact ⟨rfl, B4.out.trans (b5.mono B4.out.size)⟩
  · have C3 := Lib.hid (fun w => shift_at (r + 1) 1 60 (a + 1) (by decide) (by decide) (by omega) (by omega) (by omega) w)
    have ne : ((a + 1 : Int) == a) = false := by rw [beq_eq_false_iff_ne]; omega
    have tz : (r + 1 - 360).tmod 60 = 0 := Int.tmod_eq_zero_of_dvd (Int.dvd_of_emod_eq_zero (by omega))
    clear ha hc
    go_wp2_with fail
    refine (C1.out _).mono ?_; rintro e w1 ⟨rfl, b1⟩
    go_wp2_with fail
    refine (C2.out _).mono ?_; rintro e w2 ⟨rfl, b2⟩
    go_wp2_with fail
    refine (C3.out _).mono ?_; rintro e w3 ⟨rfl, b3⟩
    go_wp2_with fail
    refine (C4.out _).mono ?_; rintro e w4 ⟨rfl, b4⟩
    have B4 := Lib.hid (((Below.refl w.heap.size w).alloc (Nat.le_refl _) _).trans ((four b1 b2 b3 b4).mono (by simp)))
    have H4 := Lib.hid (H.out.below B4.out)
    go_wp2_with fail
    refine (awake_any _ H4.out).mono ?_; rintro e w5 ⟨rfl, b5⟩
    go_wp2
    go_ret
    exact ⟨rfl, B4.out.trans (b5.mono B4.out.size)⟩
set_option maxRecDepth 100000 in
set_option maxHeartbeats 1000000 in
theorem shifts_1 (t n : Int) (w : World) (n0 : 0 ≤ n) (n1 : n ≤ 255) (hj : n % 8 = 1) (t0 : -9223372036854775808 ≤ t) (t1 : t ≤ 9223372036854775807) (h : CTabs w) :
    Calls Tryd.prog 5 #[.int .i64 t, .int .u8 n] w fun e w' => e = .returned (.bool true) ∧ Below w.heap.size w w' := by
  have H := Lib.hid h
  clear h
  go_enter Tryd.func5, Tryd.ntmps5
  go_wp2_with fail
  refine (mod_any t 16775716 _ (by omega) (by omega) t0 t1).mono ?_; rintro e w1 ⟨r, rfl, r0, r1, rfl⟩
  obtain ⟨a, ha⟩ : ∃ a, (r - 360) / 120 = a := ⟨_, rfl⟩
  have a0 : -6 ≤ a := by omega
  have a1 : a ≤ 300000 := by omega
  have C1 := Lib.hid (fun w => shift_at r 2 120 a (by decide) (by decide) (by omega) (by omega) ha w)
  have C2 := Lib.hid (fun w => shift_at (r + 120) 2 120 (a + 1) (by decide) (by decide) (by omega) (by omega) (by omega) w)
  have C4 := Lib.hid (fun w => shift_at 360 2 120 0 (by decide) (by decide) (by omega) (by omega) (by decide) w)
  by_cases hc : (r + 1 - 360) / 120 = a
  · have C3 := Lib.hid (fun w => shift_at (r + 1) 2 120 a (by decide) (by decide) (by omega) (by omega) hc w)
    clear ha hc
    go_wp2_with fail
    refine (C1.out _).mono ?_; rintro e w1 ⟨rfl, b1⟩
    go_wp2_with fail
    refine (C2.out _).mono ?_; rintro e w2 ⟨rfl, b2⟩
    go_wp2_with fail
    refine (C3.out _).mono ?_; rintro e w3 ⟨rfl, b3⟩
    go_wp2_with fail
    refine (C4.out _).mono ?_; rintro e w4 ⟨rfl, b4⟩
    have B4 := Lib.hid (((Below.refl w.heap.size w).alloc (Nat.le_refl _) _).trans ((four b1 b2 b3 b4).mono (by simp)))
    have H4 := Lib.hid (H.out.below B4.out)
    go_wp2_with fail
    refine (awake_any _ H4.out).mono ?_; rintro e w5 ⟨rfl, b5⟩
    go_wp2
    go_ret
    exact ⟨rfl, B4.out.trans (b5.mono B4.out.size)⟩
  · have C3 := Lib.hid (fun w => shift_at (r + 1) 2 120 (a + 1) (by decide) (by decide) (by omega) (by omega) (by omega) w)
    have ne : ((a + 1 : Int) == a) = false := by rw [beq_eq_false_iff_ne]; omega
    have tz : (r + 1 - 360).tmod 120 = 0 := Int.tmod_eq_zero_of_dvd (Int.dvd_of_emod_eq_zero (by omega))
    clear ha hc
    go_wp2_with fail
    refine (C1.out _).mono ?_; rintro e w1 ⟨rfl, b1⟩
    go_wp2_with fail
    refine (C2.out _).mono ?_; rintro e w2 ⟨rfl, b2⟩
    go_wp2_with fail
    refine (C3.out _).mono ?_; rintro e w3 ⟨rfl, b3⟩
    go_wp2_with fail
    refine (C4.out _).mono ?_; rintro e w4 ⟨rfl, b4⟩
    have B4 := Lib.hid (((Below.refl w.heap.size w).alloc (Nat.le_refl _) _).trans ((four b1 b2 b3 b4).mono (by simp)))
    have H4 := Lib.hid (H.out.below B4.out)
    go_wp2_with fail
    refine (awake_any _ H4.out).mono ?_; rintro e w5 ⟨rfl, b5⟩
    go_wp2
    go_ret
    exact ⟨rfl, B4.out.trans (b5.mono B4.out.size)⟩
set_option maxRecDepth 100000 in
set_option maxHeartbeats 1000000 in
theorem shifts_2 (t n : Int) (w : World) (n0 : 0 ≤ n) (n1 : n ≤ 255) (hj : n % 8 = 2) (t0 : -9223372036854775808 ≤ t) (t1 : t ≤ 9223372036854775807) (h : CTabs w) :
    Calls Tryd.prog 5 #[.int .i64 t, .int .u8 n] w fun e w' => e = .returned (.bool true) ∧ Below w.heap.size w w' := by
  have H := Lib.hid h
  clear h
  go_enter Tryd.func5, Tryd.ntmps5
  go_wp2_with fail
  refine (mod_any t 16775716 _ (by omega) (by omega) t0 t1).mono ?_; rintro e w1 ⟨r, rfl, r0, r1, rfl⟩
  obtain ⟨a, ha⟩ : ∃ a, (r - 360) / 180 = a := ⟨_, rfl⟩
  have a0 : -6 ≤ a := by omega
  have a1 : a ≤ 300000 := by omega
  have C1 := Lib.hid (fun w => shift_at r 3 180 a (by decide) (by decide) (by omega) (by omega) ha w)
  have C2 := Lib.hid (fun w => shift_at (r + 180) 3 180 (a + 1) (by decide) (by decide) (by omega) (by omega) (by omega) w)
  have C4 := Lib.hid (fun w => shift_at 360 3 180 0 (by decide) (by decide) (by omega) (by omega) (by decide) w)
  by_cases hc : (r + 1 - 360) / 180 = a
  · have C3 := Lib.hid (fun w => shift_at (r + 1) 3 180 a (by decide) (by decide) (by omega) (by omega) hc w)
    clear ha hc
    go_wp2_with fail
    refine (C1.out _).mono ?_; rintro e w1 ⟨rfl, b1⟩
    go_wp2_with fail
    refine (C2.out _).mono ?_; rintro e w2 ⟨rfl, b2⟩
    go_wp2_with fail
    refine (C3.out _).mono ?_; rintro e w3 ⟨rfl, b3⟩
    go_wp2_with fail
    refine (C4.out _).mono ?_; rintro e w4 ⟨rfl, b4⟩
    have B4 := Lib.hid (((Below.refl w.heap.size w).alloc (Nat.le_refl _) _).trans ((four b1 b2 b3 b4).mono (by simp)))
    have H4 := Lib.hid (H.out.below B4.out)
    go_wp2_with fail
    refine (awake_any _ H4.out).mono ?_; rintro e w5 ⟨rfl, b5⟩
    go_wp2
    go_ret
    exact ⟨rfl, B4.out.trans (b5.mono B4.out.size)⟩
  · have C3 := Lib.hid (fun w => shift_at (r + 1) 3 180 (a + 1) (by decide) (by decide) (by omega) (by omega) (by omega) w)
    have ne : ((a + 1 : Int) == a) = false := by rw [beq_eq_false_iff_ne]; omega
    have tz : (r + 1 - 360).tmod 180 = 0 := Int.tmod_eq_zero_of_dvd (Int.dvd_of_emod_eq_zero (by omega))
    clear ha hc
    go_wp2_with fail
    refine (C1.out _).mono ?_; rintro e w1 ⟨rfl, b1⟩
    go_wp2_with fail
    refine (C2.out _).mono ?_; rintro e w2 ⟨rfl, b2⟩
    go_wp2_with fail
    refine (C3.out _).mono ?_; rintro e w3 ⟨rfl, b3⟩
    go_wp2_with fail
    refine (C4.out _).mono ?_; rintro e w4 ⟨rfl, b4⟩
    have B4 := Lib.hid (((Below.refl w.heap.size w).alloc (Nat.le_refl _) _).trans ((four b1 b2 b3 b4).mono (by simp)))
    have H4 := Lib.hid (H.out.below B4.out)
    go_wp2_with fail
    refine (awake_any _ H4.out).mono ?_; rintro e w5 ⟨rfl, b5⟩
    go_wp2
    go_ret
    exact ⟨rfl, B4.out.trans (b5.mono B4.out.size)⟩
set_option maxRecDepth 100000 in
set_option maxHeartbeats 1000000 in
theorem shifts_3 (t n : Int) (w : World) (n0 : 0 ≤ n) (n1 : n ≤ 255) (hj : n % 8 = 3) (t0 : -9223372036854775808 ≤ t) (t1 : t ≤ 9223372036854775807) (h : CTabs w) :
    Calls Tryd.prog 5 #[.int .i64 t, .int .u8 n] w fun e w' => e = .returned (.bool true) ∧ Below w.heap.size w w' := by
  have H := Lib.hid h
  clear h
  go_enter Tryd.func5, Tryd.ntmps5
  go_wp2_with fail
  refine (mod_any t 16775716 _ (by omega) (by omega) t0 t1).mono ?_; rintro e w1 ⟨r, rfl, r0, r1, rfl⟩
  obtain ⟨a, ha⟩ : ∃ a, (r - 360) / 240 = a := ⟨_, rfl⟩
  have a0 : -6 ≤ a := by omega
  have a1 : a ≤ 300000 := by omega
  have C1 := Lib.hid (fun w => shift_at r 4 240 a (by decide) (by decide) (by omega) (by omega) ha w)
  have C2 := Lib.hid (fun w => shift_at (r + 240) 4 240 (a + 1) (by decide) (by decide) (by omega) (by omega) (by omega) w)
  have C4 := Lib.hid (fun w => shift_at 360 4 240 0 (by decide) (by decide) (by omega) (by omega) (by decide) w)
  by_cases hc : (r + 1 - 360) / 240 = a
  · have C3 := Lib.hid (fun w => shift_at (r + 1) 4 240 a (by decide) (by decide) (by omega) (by omega) hc w)
    clear ha hc
    go_wp2_with fail
    refine (C1.out _).mono ?_; rintro e w1 ⟨rfl, b1⟩
    go_wp2_with fail
    refine (C2.out _).mono ?_; rintro e w2 ⟨rfl, b2⟩
    go_wp2_with fail
    refine (C3.out _).mono ?_; rintro e w3 ⟨rfl, b3⟩
    go_wp2_with fail
    refine (C4.out _).mono ?_; rintro e w4 ⟨rfl, b4⟩
    have B4 := Lib.hid (((Below.refl w.heap.size w).alloc (Nat.le_refl _) _).trans ((four b1 b2 b3 b4).mono (by simp)))
    have H4 := Lib.hid (H.out.below B4.out)
    go_wp2_with fail
    refine (awake_any _ H4.out).mono ?_; rintro e w5 ⟨rfl, b5⟩
    go_wp2
    go_ret
    exact ⟨rfl, B4.out.trans (b5.mono B4.out.size)⟩
  · have C3 := Lib.hid (fun w => shift_at (r + 1) 4 240 (a + 1) (by decide) (by decide) (by omega) (by omega) (by omega) w)
    have ne : ((a + 1 : Int) == a) = false := by rw [beq_eq_false_iff_ne]; omega
    have tz : (r + 1 - 360).tmod 240 = 0 := Int.tmod_eq_zero_of_dvd (Int.dvd_of_emod_eq_zero (by omega))
    clear ha hc
    go_wp2_with fail
    refine (C1.out _).mono ?_; rintro e w1 ⟨rfl, b1⟩
    go_wp2_with fail
    refine (C2.out _).mono ?_; rintro e w2 ⟨rfl, b2⟩
    go_wp2_with fail
    refine (C3.out _).mono ?_; rintro e w3 ⟨rfl, b3⟩
    go_wp2_with fail
    refine (C4.out _).mono ?_; rintro e w4 ⟨rfl, b4⟩
    have B4 := Lib.hid (((Below.refl w.heap.size w).alloc (Nat.le_refl _) _).trans ((four b1 b2 b3 b4).mono (by simp)))
    have H4 := Lib.hid (H.out.below B4.out)
    go_wp2_with fail
    refine (awake_any _ H4.out).mono ?_; rintro e w5 ⟨rfl, b5⟩
    go_wp2
    go_ret
    exact ⟨rfl, B4.out.trans (b5.mono B4.out.size)⟩
set_option maxRecDepth 100000 in
set_option maxHeartbeats 1000000 in
theorem shifts_4 (t n : Int) (w : World) (n0 : 0 ≤ n) (n1 : n ≤ 255) (hj : n % 8 = 4) (t0 : -9223372036854775808 ≤ t) (t1 : t ≤ 9223372036854775807) (h : CTabs w) :
    Calls Tryd.prog 5 #[.int .i64 t, .int .u8 n] w fun e w' => e = .returned (.bool true) ∧ Below w.heap.size w w' := by
  have H := Lib.hid h
  clear h
  go_enter Tryd.func5, Tryd.ntmps5
  go_wp2_with fail
  refine (mod_any t 16775716 _ (by omega) (by omega) t0 t1).mono ?_; rintro e w1 ⟨r, rfl, r0, r1, rfl⟩
  obtain ⟨a, ha⟩ : ∃ a, (r - 360) / 360 = a := ⟨_, rfl⟩
  have a0 : -6 ≤ a := by omega
  have a1 : a ≤ 300000 := by omega
  have C1 := Lib.hid (fun w => shift_at r 6 360 a (by decide) (by decide) (by omega) (by omega) ha w)
  have C2 := Lib.hid (fun w => shift_at (r + 360) 6 360 (a + 1) (by decide) (by decide) (by omega) (by omega) (by omega) w)
  have C4 := Lib.hid (fun w => shift_at 360 6 360 0 (by decide) (by decide) (by omega) (by omega) (by decide) w)
  by_cases hc : (r + 1 - 360) / 360 = a
  · have C3 := Lib.hid (fun w => shift_at (r + 1) 6 360 a (by decide) (by decide) (by omega) (by omega) hc w)
    clear ha hc
    go_wp2_with fail
    refine (C1.out _).mono ?_; rintro e w1 ⟨rfl, b1⟩
    go_wp2_with fail
    refine (C2.out _).mono ?_; rintro e w2 ⟨rfl, b2⟩
    go_wp2_with fail
    refine (C3.out _).mono ?_; rintro e w3 ⟨rfl, b3⟩
    go_wp2_with fail
    refine (C4.out _).mono ?_; rintro e w4 ⟨rfl, b4⟩
    have B4 := Lib.hid (((Below.refl w.heap.size w).alloc (Nat.le_refl _) _).trans ((four b1 b2 b3 b4).mono (by simp)))
    have H4 := Lib.hid (H.out.below B4.out)
    go_wp2_with fail
    refine (awake_any _ H4.out).mono ?_; rintro e w5 ⟨rfl, b5⟩
    go_wp2
    go_ret
    exact ⟨rfl, B4.out.trans (b5.mono B4.out.size)⟩
  · have C3 := Lib.hid (fun w => shift_at (r + 1) 6 360 (a + 1) (by decide) (by decide) (by omega) (by omega) (by omega) w)
    have ne : ((a + 1 : Int) == a) = false := by rw [beq_eq_false_iff_ne]; omega
    have tz : (r + 1 - 360).tmod 360 = 0 := Int.tmod_eq_zero_of_dvd (Int.dvd_of_emod_eq_zero (by omega))
    clear ha hc
    go_wp2_with fail
    refine (C1.out _).mono ?_; rintro e w1 ⟨rfl, b1⟩
    go_wp2_with fail
    refine (C2.out _).mono ?_; rintro e w2 ⟨rfl, b2⟩
    go_wp2_with fail
    refine (C3.out _).mono ?_; rintro e w3 ⟨rfl, b3⟩
    go_wp2_with fail
    refine (C4.out _).mono ?_; rintro e w4 ⟨rfl, b4⟩
    have B4 := Lib.hid (((Below.refl w.heap.size w).alloc (Nat.le_refl _) _).trans ((four b1 b2 b3 b4).mono (by simp)))
    have H4 := Lib.hid (H.out.below B4.out)
    go_wp2_with fail
    refine (awake_any _ H4.out).mono ?_; rintro e w5 ⟨rfl, b5⟩
    go_wp2
    go_ret
    exact ⟨rfl, B4.out.trans (b5.mono B4.out.size)⟩
set_option maxRecDepth 100000 in
set_option maxHeartbeats 1000000 in
theorem shifts_5 (t n : Int) (w : World) (n0 : 0 ≤ n) (n1 : n ≤ 255) (hj : n % 8 = 5) (t0 : -9223372036854775808 ≤ t) (t1 : t ≤ 9223372036854775807) (h : CTabs w) :
    Calls Tryd.prog 5 #[.int .i64 t, .int .u8 n] w fun e w' => e = .returned (.bool true) ∧ Below w.heap.size w w' := by
  have H := Lib.hid h
  clear h
  go_enter Tryd.func5, Tryd.ntmps5
  go_wp2_with fail
  refine (mod_any t 16775716 _ (by omega) (by omega) t0 t1).mono ?_; rintro e w1 ⟨r, rfl, r0, r1, rfl⟩
  obtain ⟨a, ha⟩ : ∃ a, (r - 360) / 480 = a := ⟨_, rfl⟩
  have a0 : -6 ≤ a := by omega
  have a1 : a ≤ 300000 := by omega
  have C1 := Lib.hid (fun w => shift_at r 8 480 a (by decide) (by decide) (by omega) (by omega) ha w)
  have C2 := Lib.hid (fun w => shift_at (r + 480) 8 480 (a + 1) (by decide) (by decide) (by omega) (by omega) (by omega) w)
  have C4 := Lib.hid (fun w => shift_at 360 8 480 0 (by decide) (by decide) (by omega) (by omega) (by decide) w)
  by_cases hc : (r + 1 - 360) / 480 = a
  · have C3 := Lib.hid (fun w => shift_at (r + 1) 8 480 a (by decide) (by decide) (by omega) (by omega) hc w)
    clear ha hc
    go_wp2_with fail
    refine (C1.out _).mono ?_; rintro e w1 ⟨rfl, b1⟩
    go_wp2_with fail
    refine (C2.out _).mono ?_; rintro e w2 ⟨rfl, b2⟩
    go_wp2_with fail
    refine (C3.out _).mono ?_; rintro e w3 ⟨rfl, b3⟩
    go_wp2_with fail
    refine (C4.out _).mono ?_; rintro e w4 ⟨rfl, b4⟩
    have B4 := Lib.hid (((Below.refl w.heap.size w).alloc (Nat.le_refl _) _).trans ((four b1 b2 b3 b4).mono (by simp)))
    have H4 := Lib.hid (H.out.below B4.out)
    go_wp2_with fail
    refine (awake_any _ H4.out).mono ?_; rintro e w5 ⟨rfl, b5⟩
    go_wp2
    go_ret
    exact ⟨rfl, B4.out.trans (b5.mono B4.out.size)⟩
  · have C3 := Lib.hid (fun w => shift_at (r + 1) 8 480 (a + 1) (by decide) (by decide) (by omega) (by omega) (by omega) w)
    have ne : ((a + 1 : Int) == a) = false := by rw [beq_eq_false_iff_ne]; omega
    have tz : (r + 1 - 360).tmod 480 = 0 := Int.tmod_eq_zero_of_dvd (Int.dvd_of_emod_eq_zero (by omega))
    clear ha hc
    go_wp2_with fail
    refine (C1.out _).mono ?_; rintro e w1 ⟨rfl, b1⟩
    go_wp2_with fail
    refine (C2.out _).mono ?_; rintro e w2 ⟨rfl, b2⟩
    go_wp2_with fail
    refine (C3.out _).mono ?_; rintro e w3 ⟨rfl, b3⟩
    go_wp2_with fail
    refine (C4.out _).mono ?_; rintro e w4 ⟨rfl, b4⟩
    have B4 := Lib.hid (((Below.refl w.heap.size w).alloc (Nat.le_refl _) _).trans ((four b1 b2 b3 b4).mono (by simp)))
    have H4 := Lib.hid (H.out.below B4.out)
    go_wp2_with fail
    refine (awake_any _ H4.out).mono ?_; rintro e w5 ⟨rfl, b5⟩
    go_wp2
    go_ret
    exact ⟨rfl, B4.out.trans (b5.mono B4.out.size)⟩
set_option maxRecDepth 100000 in
set_option maxHeartbeats 1000000 in
theorem shifts_6 (t n : Int) (w : World) (n0 : 0 ≤ n) (n1 : n ≤ 255) (hj : n % 8 = 6) (t0 : -9223372036854775808 ≤ t) (t1 : t ≤ 9223372036854775807) (h : CTabs w) :
    Calls Tryd.prog 5 #[.int .i64 t, .int .u8 n] w fun e w' => e = .returned (.bool true) ∧ Below w.heap.size w w' := by
  have H := Lib.hid h
  clear h
  go_enter Tryd.func5, Tryd.ntmps5
  go_wp2_with fail
  refine (mod_any t 16775716 _ (by omega) (by omega) t0 t1).mono ?_; rintro e w1 ⟨r, rfl, r0, r1, rfl⟩
  obtain ⟨a, ha⟩ : ∃ a, (r - 360) / 720 = a := ⟨_, rfl⟩
  have a0 : -6 ≤ a := by omega
  have a1 : a ≤ 300000 := by omega
  have C1 := Lib.hid (fun w => shift_at r 12 720 a (by decide) (by decide) (by omega) (by omega) ha w)
  have C2 := Lib.hid (fun w => shift_at (r + 720) 12 720 (a + 1) (by decide) (by decide) (by omega) (by omega) (by omega) w)
  have C4 := Lib.hid (fun w => shift_at 360 12 720 0 (by decide) (by decide) (by omega) (by omega) (by decide) w)
  by_cases hc : (r + 1 - 360) / 720 = a
  · have C3 := Lib.hid (fun w => shift_at (r + 1) 12 720 a (by decide) (by decide) (by omega) (by omega) hc w)
    clear ha hc
    go_wp2_with fail
    refine (C1.out _).mono ?_; rintro e w1 ⟨rfl, b1⟩
    go_wp2_with fail
    refine (C2.out _).mono ?_; rintro e w2 ⟨rfl, b2⟩
    go_wp2_with fail
    refine (C3.out _).mono ?_; rintro e w3 ⟨rfl, b3⟩
    go_wp2_with fail
    refine (C4.out _).mono ?_; rintro e w4 ⟨rfl, b4⟩
    have B4 := Lib.hid (((Below.refl w.heap.size w).alloc (Nat.le_refl _) _).trans ((four b1 b2 b3 b4).mono (by simp)))
    have H4 := Lib.hid (H.out.below B4.out)
    go_wp2_with fail
    refine (awake_any _ H4.out).mono ?_; rintro e w5 ⟨rfl, b5⟩
    go_wp2
    go_ret
    exact ⟨rfl, B4.out.trans (b5.mono B4.out.size)⟩
  · have C3 := Lib.hid (fun w => shift_at (r + 1) 12 720 (a + 1) (by decide) (by decide) (by omega) (by omega) (by omega) w)
    have ne : ((a + 1 : Int) == a) = false := by rw [beq_eq_false_iff_ne]; omega
    have tz : (r + 1 - 360).tmod 720 = 0 := Int.tmod_eq_zero_of_dvd (Int.dvd_of_emod_eq_zero (by omega))
    clear ha hc
    go_wp2_with fail
    refine (C1.out _).mono ?_; rintro e w1 ⟨rfl, b1⟩
    go_wp2_with fail
    refine (C2.out _).mono ?_; rintro e w2 ⟨rfl, b2⟩
    go_wp2_with fail
    refine (C3.out _).mono ?_; rintro e w3 ⟨rfl, b3⟩
    go_wp2_with fail
    refine (C4.out _).mono ?_; rintro e w4 ⟨rfl, b4⟩
    have B4 := Lib.hid (((Below.refl w.heap.size w).alloc (Nat.le_refl _) _).trans ((four b1 b2 b3 b4).mono (by simp)))
    have H4 := Lib.hid (H.out.below B4.out)
    go_wp2_with fail
    refine (awake_any _ H4.out).mono ?_; rintro e w5 ⟨rfl, b5⟩
    go_wp2
    go_ret
    exact ⟨rfl, B4.out.trans (b5.mono B4.out.size)⟩
set_option maxRecDepth 100000 in
set_option maxHeartbeats 1000000 in
theorem shifts_7 (t n : Int) (w : World) (n0 : 0 ≤ n) (n1 : n ≤ 255) (hj : n % 8 = 7) (t0 : -9223372036854775808 ≤ t) (t1 : t ≤ 9223372036854775807) (h : CTabs w) :
    Calls Tryd.prog 5 #[.int .i64 t, .int .u8 n] w fun e w' => e = .returned (.bool true) ∧ Below w.heap.size w w' := by
  have H := Lib.hid h
  clear h
  go_enter Tryd.func5, Tryd.ntmps5
  go_wp2_with fail
  refine (mod_any t 16775716 _ (by omega) (by omega) t0 t1).mono ?_; rintro e w1 ⟨r, rfl, r0, r1, rfl⟩
  obtain ⟨a, ha⟩ : ∃ a, (r - 360) / 1440 = a := ⟨_, rfl⟩
  have a0 : -6 ≤ a := by omega
  have a1 : a ≤ 300000 := by omega
  have C1 := Lib.hid (fun w => shift_at r 24 1440 a (by decide) (by decide) (by omega) (by omega) ha w)
  have C2 := Lib.hid (fun w => shift_at (r + 1440) 24 1440 (a + 1) (by decide) (by decide) (by omega) (by omega) (by omega) w)
  have C4 := Lib.hid (fun w => shift_at 360 24 1440 0 (by decide) (by decide) (by omega) (by omega) (by decide) w)
  by_cases hc : (r + 1 - 360) / 1440 = a
  · have C3 := Lib.hid (fun w => shift_at (r + 1) 24 1440 a (by decide) (by decide) (by omega) (by omega) hc w)
    clear ha hc
    go_wp2_with fail
    refine (C1.out _).mono ?_; rintro e w1 ⟨rfl, b1⟩
    go_wp2_with fail
    refine (C2.out _).mono ?_; rintro e w2 ⟨rfl, b2⟩
    go_wp2_with fail
    refine (C3.out _).mono ?_; rintro e w3 ⟨rfl, b3⟩
    go_wp2_with fail
    refine (C4.out _).mono ?_; rintro e w4 ⟨rfl, b4⟩
    have B4 := Lib.hid (((Below.refl w.heap.size w).alloc (Nat.le_refl _) _).trans ((four b1 b2 b3 b4).mono (by simp)))
    have H4 := Lib.hid (H.out.below B4.out)
    go_wp2_with fail
    refine (awake_any _ H4.out).mono ?_; rintro e w5 ⟨rfl, b5⟩
    go_wp2
    go_ret
    exact ⟨rfl, B4.out.trans (b5.mono B4.out.size)⟩
  · have C3 := Lib.hid (fun w => shift_at (r + 1) 24 1440 (a + 1) (by decide) (by decide) (by omega) (by omega) (by omega) w)
    have ne : ((a + 1 : Int) == a) = false := by rw [beq_eq_false_iff_ne]; omega
    have tz : (r + 1 - 360).tmod 1440 = 0 := Int.tmod_eq_zero_of_dvd (Int.dvd_of_emod_eq_zero (by omega))
    clear ha hc
    go_wp2_with fail
    refine (C1.out _).mono ?_; rintro e w1 ⟨rfl, b1⟩
    go_wp2_with fail
    refine (C2.out _).mono ?_; rintro e w2 ⟨rfl, b2⟩
    go_wp2_with fail
    refine (C3.out _).mono ?_; rintro e w3 ⟨rfl, b3⟩
    go_wp2_with fail
    refine (C4.out _).mono ?_; rintro e w4 ⟨rfl, b4⟩
    have B4 := Lib.hid (((Below.refl w.heap.size w).alloc (Nat.le_refl _) _).trans ((four b1 b2 b3 b4).mono (by simp)))
    have H4 := Lib.hid (H.out.below B4.out)
    go_wp2_with fail
    refine (awake_any _ H4.out).mono ?_; rintro e w5 ⟨rfl, b5⟩
    go_wp2
    go_ret
    exact ⟨rfl, B4.out.trans (b5.mono B4.out.size)⟩
theorem shifts_walk (t n : Int) (w : World) (t0 : -9223372036854775808 ≤ t) (t1 : t ≤ 9223372036854775807) (n0 : 0 ≤ n) (n1 : n ≤ 255) (h : CTabs w) :
    Calls Tryd.prog 5 #[.int .i64 t, .int .u8 n] w fun e w' => e = .returned (.bool true) ∧ Below w.heap.size w w' := by
  have hj : n % 8 = 0 ∨ n % 8 = 1 ∨ n % 8 = 2 ∨ n % 8 = 3 ∨ n % 8 = 4 ∨ n % 8 = 5 ∨ n % 8 = 6 ∨ n % 8 = 7 := by omega
  rcases hj with hj | hj | hj | hj | hj | hj | hj | hj
  · exact shifts_0 t n w n0 n1 hj t0 t1 h
  · exact shifts_1 t n w n0 n1 hj t0 t1 h
  · exact shifts_2 t n w n0 n1 hj t0 t1 h
  · exact shifts_3 t n w n0 n1 hj t0 t1 h
  · exact shifts_4 t n w n0 n1 hj t0 t1 h
  · exact shifts_5 t n w n0 n1 hj t0 t1 h
  · exact shifts_6 t n w n0 n1 hj t0 t1 h
  · exact shifts_7 t n w n0 n1 hj t0 t1 h
end Go.Proofs.YticehhmfbpjamaaDoor.cal
