/- The walks of the reference of layer 2, first part: timeOf, Make, Split, two, Print. They compute what the program's own functions compute. -/
import Derived.Test.YticehhmfbpjamaaDoorCalB
import Derived.Test.YticehhmfbpjamaaDoorRTx
import Derived.Test.YticehhmfbpjamaaDoorRNm
namespace Go.Proofs.YticehhmfbpjamaaDoor.cal
open Go.RowKit strs lex

theorem rtime_is (t : Int) (b : Bool) (hb : isTm t = b) (w : World) :
    Calls Tryd.prog 36 #[.int .i64 t] w fun e w' => e = .returned (.bool b) ∧ w = w' := by
  unfold isTm at hb
  have hr : t < 0 ∨ (0 ≤ t ∧ t ≤ 16777216) ∨ (0 ≤ t ∧ 16777216 < t) := by omega
  rcases hr with r1 | ⟨r1, r2⟩ | ⟨r1, r2⟩
  · rw [decide_eq_false (by omega)] at hb
    subst hb
    go_enter Tryd.func36, Tryd.ntmps36
    go_wp2
    all_goals (first | (exfalso; omega) | (go_ret; exact ⟨ret_bool (by first | rfl | exact decide_eq_true (by omega) | exact decide_eq_false (by omega)), rfl⟩))
  · rw [decide_eq_true (by omega)] at hb
    subst hb
    go_enter Tryd.func36, Tryd.ntmps36
    go_wp2
    all_goals (first | (exfalso; omega) | (go_ret; exact ⟨ret_bool (by first | rfl | exact decide_eq_true (by omega) | exact decide_eq_false (by omega)), rfl⟩))
  · rw [decide_eq_false (by omega)] at hb
    subst hb
    go_enter Tryd.func36, Tryd.ntmps36
    go_wp2
    all_goals (first | (exfalso; omega) | (go_ret; exact ⟨ret_bool (by first | rfl | exact decide_eq_true (by omega) | exact decide_eq_false (by omega)), rfl⟩))

set_option maxRecDepth 100000 in
theorem rmake_ok (d h m : Int) (ho : mkOk d h m = true) (w : World) :
    Calls Tryd.prog 12 #[.int .i64 d, .int .i64 h, .int .i64 m] w fun e w' => e = .returned (.tuple #[.int .i64 (1440 * d + 60 * h + m), .int .i64 0]) ∧ w = w' := by
  unfold mkOk at ho
  obtain ⟨h1, h2, h3, h4, h5, h6⟩ := of_decide_eq_true ho
  clear ho
  have h7 : d ≤ 16777216 := by omega
  have b4 := Lib.hid (fun w => rtime_is (1440 * d + 60 * h + m) true (decide_eq_true (by omega)) w)
  go_enter Tryd.func12, Tryd.ntmps12
  go_wp2_with (go_at_call 36; refine (b4.out _).mono ?_; rintro e w' ⟨rfl, rfl⟩)
  all_goals (first | (exfalso; omega) | (go_ret2; exact ⟨rfl, rfl⟩))
set_option maxRecDepth 100000 in
set_option maxHeartbeats 1000000 in
theorem rmake_no (d h m : Int) (ho : mkOk d h m = false) (w : World) :
    Calls Tryd.prog 12 #[.int .i64 d, .int .i64 h, .int .i64 m] w fun e w' => e = .returned (.tuple #[.int .i64 0, .int .i64 5]) ∧ w = w' := by
  unfold mkOk at ho
  have ho' := of_decide_eq_false ho
  have hc : h < 0 ∨ (0 ≤ h ∧ 23 < h) ∨ (0 ≤ h ∧ h ≤ 23 ∧ m < 0) ∨ (0 ≤ h ∧ h ≤ 23 ∧ 0 ≤ m ∧ 59 < m) ∨ (0 ≤ h ∧ h ≤ 23 ∧ 0 ≤ m ∧ m ≤ 59 ∧ d < 0) ∨ (0 ≤ h ∧ h ≤ 23 ∧ 0 ≤ m ∧ m ≤ 59 ∧ 0 ≤ d ∧ 16777216 < d) ∨ (0 ≤ h ∧ h ≤ 23 ∧ 0 ≤ m ∧ m ≤ 59 ∧ 0 ≤ d ∧ d ≤ 16777216 ∧ 16777216 < 1440 * d + 60 * h + m) := by omega
  clear ho ho'
  rcases hc with c1 | ⟨c1, c2⟩ | ⟨c1, c2, c3⟩ | ⟨c1, c2, c3, c4⟩ | ⟨c1, c2, c3, c4, c5⟩ | ⟨c1, c2, c3, c4, c5, c6⟩ | ⟨c1, c2, c3, c4, c5, c6, c7⟩
  · go_enter Tryd.func12, Tryd.ntmps12
    go_wp2
    all_goals (first | (exfalso; omega) | (go_ret2; exact ⟨rfl, rfl⟩))
  · go_enter Tryd.func12, Tryd.ntmps12
    go_wp2
    all_goals (first | (exfalso; omega) | (go_ret2; exact ⟨rfl, rfl⟩))
  · go_enter Tryd.func12, Tryd.ntmps12
    go_wp2
    all_goals (first | (exfalso; omega) | (go_ret2; exact ⟨rfl, rfl⟩))
  · go_enter Tryd.func12, Tryd.ntmps12
    go_wp2
    all_goals (first | (exfalso; omega) | (go_ret2; exact ⟨rfl, rfl⟩))
  · go_enter Tryd.func12, Tryd.ntmps12
    go_wp2
    all_goals (first | (exfalso; omega) | (go_ret2; exact ⟨rfl, rfl⟩))
  · go_enter Tryd.func12, Tryd.ntmps12
    go_wp2
    all_goals (first | (exfalso; omega) | (go_ret2; exact ⟨rfl, rfl⟩))
  · have b4 := Lib.hid (fun w => rtime_is (1440 * d + 60 * h + m) false (decide_eq_false (by omega)) w)
    go_enter Tryd.func12, Tryd.ntmps12
    go_wp2_with (go_at_call 36; refine (b4.out _).mono ?_; rintro e w' ⟨rfl, rfl⟩)
    all_goals (first | (exfalso; omega) | (go_ret2; exact ⟨rfl, rfl⟩))
theorem rmake_is (d h m v x : Int) (hv : mkV d h m = v) (hx : mkE d h m = x) (w : World) :
    Calls Tryd.prog 12 #[.int .i64 d, .int .i64 h, .int .i64 m] w fun e w' => e = .returned (.tuple #[.int .i64 v, .int .i64 x]) ∧ w = w' := by
  subst hv hx
  unfold mkV mkE
  by_cases ho : mkOk d h m = true
  · rw [if_pos ho, if_pos ho]; exact rmake_ok d h m ho w
  · rw [if_neg ho, if_neg ho]; exact rmake_no d h m (Bool.eq_false_iff.2 ho) w

theorem rsplit_ok (t : Int) (ho : isTm t = true) (w : World) :
    Calls Tryd.prog 14 #[.int .i64 t] w fun e w' => e = .returned (.tuple #[.int .i64 (t / 1440), .int .i64 (t % 1440 / 60), .int .i64 (t % 60), .bool true]) ∧ w = w' := by
  have b1 := Lib.hid (fun w => rtime_is t true ho w)
  unfold isTm at ho
  obtain ⟨h1, h2⟩ := of_decide_eq_true ho
  clear ho
  go_enter Tryd.func14, Tryd.ntmps14
  go_wp2_with fail
  refine (b1.out _).mono ?_; rintro e w' ⟨rfl, rfl⟩
  go_wp2
  exact bodyPost_ret (v := .tuple #[.int .i64 (t / 1440), .int .i64 (t % 1440 / 60), .int .i64 (t % 60), .bool true]) (by simp [results, Tryd.results14, go_sem]) rfl ⟨rfl, rfl⟩
theorem rsplit_no (t : Int) (ho : isTm t = false) (w : World) :
    Calls Tryd.prog 14 #[.int .i64 t] w fun e w' => e = .returned (.tuple #[.int .i64 0, .int .i64 0, .int .i64 0, .bool false]) ∧ w = w' := by
  have b1 := Lib.hid (fun w => rtime_is t false ho w)
  clear ho
  go_enter Tryd.func14, Tryd.ntmps14
  go_wp2_with fail
  refine (b1.out _).mono ?_; rintro e w' ⟨rfl, rfl⟩
  go_wp2
  exact bodyPost_ret (v := .tuple #[.int .i64 0, .int .i64 0, .int .i64 0, .bool false]) (by simp [results, Tryd.results14, go_sem]) rfl ⟨rfl, rfl⟩

theorem rtext_at (n : Int) (x : ByteArray) (hx : x = bs (Lib.itoa n)) (w : World) (h0 : -9223372036854775808 ≤ n) (h1 : n ≤ 9223372036854775807) :
    Calls Tryd.prog 39 #[.int .i64 n] w fun e w' => e = .returned (.string x) ∧ Below w.heap.size w w' := by
  subst hx; exact rtext_any n w h0 h1
set_option maxRecDepth 100000 in
theorem rtwo_at (n : Int) (x : ByteArray) (hx : x = bs (two n)) (w : World) (h0 : 0 ≤ n) (h1 : n ≤ 9223372036854775807) :
    Calls Tryd.prog 40 #[.int .i64 n] w fun e w' => e = .returned (.string x) ∧ Below w.heap.size w w' := by
  subst hx
  obtain ⟨t, ht⟩ : ∃ t, t = bs (Lib.itoa n) := ⟨_, rfl⟩
  have hk : t.size ≤ 21 := by rw [ht]; exact itoa_size (by omega) h1
  have C := Lib.hid (rtext_at n t ht w (by omega) h1)
  by_cases c : n < 10
  · have HF := Lib.hid (show ({ data := #[48] } : ByteArray) ++ t = bs (two n) from by rw [ht]; exact two_bs c)
    clear ht
    go_enter Tryd.func40, Tryd.ntmps40
    go_wp2_with fail
    refine C.out.mono ?_; rintro e w1 ⟨rfl, hb⟩
    go_wp2
    go_ret
    exact ⟨ret_str HF.out, hb⟩
  · have HF := Lib.hid (show t = bs (two n) from by rw [ht]; exact two_bs2 c)
    clear ht
    go_enter Tryd.func40, Tryd.ntmps40
    go_wp2_with fail
    refine C.out.mono ?_; rintro e w1 ⟨rfl, hb⟩
    go_wp2
    go_ret
    exact ⟨ret_str HF.out, hb⟩
set_option maxRecDepth 100000 in
set_option maxHeartbeats 400000 in
theorem rprint_ok (t : Int) (ho : isTm t = true) (w : World) :
    Calls Tryd.prog 16 #[.int .i64 t] w fun e w' => e = .returned (.tuple #[.string (bs (timeText t)), .int .i64 0]) ∧ Below w.heap.size w w' := by
  have C0 := Lib.hid (rsplit_ok t ho w)
  have ho' := ho
  unfold isTm at ho'
  obtain ⟨h1, h2⟩ := of_decide_eq_true ho'
  obtain ⟨x, hx⟩ : ∃ x, x = bs (Lib.itoa (t / 1440)) := ⟨_, rfl⟩
  obtain ⟨y, hy⟩ : ∃ y, y = bs (two (t % 1440 / 60)) := ⟨_, rfl⟩
  obtain ⟨z, hz⟩ : ∃ z, z = bs (two (t % 60)) := ⟨_, rfl⟩
  have kx : x.size ≤ 21 := by rw [hx]; exact itoa_size (by omega) (by omega)
  have ky : y.size ≤ 2 := by rw [hy]; exact two_size (by omega) (by omega)
  have kz : z.size ≤ 2 := by rw [hz]; exact two_size (by omega) (by omega)
  have C1 := Lib.hid (fun w => rtext_at (t / 1440) x hx w (by omega) (by omega))
  have C2 := Lib.hid (fun w => rtwo_at (t % 1440 / 60) y hy w (by omega) (by omega))
  have C3 := Lib.hid (fun w => rtwo_at (t % 60) z hz w (by omega) (by omega))
  have HF := Lib.hid (show x ++ ({ data := #[47] } : ByteArray) ++ y ++ ({ data := #[58] } : ByteArray) ++ z = bs (timeText t) from by rw [hx, hy, hz]; exact text_parts t)
  clear ho ho' hx hy hz
  go_enter Tryd.func16, Tryd.ntmps16
  go_wp2_with fail
  refine C0.out.mono ?_; rintro e w' ⟨rfl, rfl⟩
  go_wp2_with fail
  refine (C1.out _).mono ?_; rintro e w1 ⟨rfl, hb1⟩
  go_wp2_with fail
  refine (C2.out _).mono ?_; rintro e w2 ⟨rfl, hb2⟩
  go_wp2_with fail
  refine (C3.out _).mono ?_; rintro e w3 ⟨rfl, hb3⟩
  go_wp2
  go_ret2
  exact ⟨ret_text HF.out 0, (hb1.trans (hb2.mono hb1.size)).trans (hb3.mono (Nat.le_trans hb1.size hb2.size))⟩
set_option maxRecDepth 100000 in
theorem rprint_no (t : Int) (ho : isTm t = false) (w : World) :
    Calls Tryd.prog 16 #[.int .i64 t] w fun e w' => e = .returned (.tuple #[.string (bs []), .int .i64 11]) ∧ Below w.heap.size w w' := by
  have C0 := Lib.hid (rsplit_no t ho w)
  clear ho
  go_enter Tryd.func16, Tryd.ntmps16
  go_wp2_with fail
  refine C0.out.mono ?_; rintro e w' ⟨rfl, rfl⟩
  go_wp2
  go_ret2
  exact ⟨rfl, Below.refl _ _⟩

end Go.Proofs.YticehhmfbpjamaaDoor.cal
