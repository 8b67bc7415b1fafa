/- The walks of the reference of layer 2, second part: Shift. It computes what the program's own function computes. -/
import Derived.Test.YticehhmfbpjamaaDoorCalRA
namespace Go.Proofs.YticehhmfbpjamaaDoor.cal
open Go.RowKit strs lex

set_option maxRecDepth 100000 in
set_option maxHeartbeats 1000000 in
theorem rshift_1 (t F : Int) (t0 : 0 ≤ t) (t1 : t ≤ 16777216) (hF : (t - 360) / 60 = F) (w : World) :
    Calls Tryd.prog 18 #[.int .i64 t, .int .i64 1] w fun e w' => e = .returned (.tuple #[.int .i64 F, .int .i64 0]) ∧ w = w' := by
  have C0 := Lib.hid (rtime_is t true (decide_eq_true ⟨t0, t1⟩) w)
  have f0 : 60 * F ≤ t - 360 := by omega
  have f1 : t - 360 < 60 * F + 60 := by omega
  have HF := Lib.hid hF
  clear hF
  go_enter Tryd.func18, Tryd.ntmps18
  go_wp2_with fail
  refine C0.out.mono ?_; rintro e w' ⟨rfl, rfl⟩
  go_wp2
  go_loop [6, 7] (fun n _ => ∃ m : Int, n = .int .i64 m ∧ (m = 0 ∨ (m = F ∧ 1 ≤ F))) (fun n _ => (F + 1 - intOf n).toNat)
  case atStart => exact ⟨0, rfl, .inl rfl⟩
  case round =>
    obtain ⟨m, rfl, hm⟩ := hrel
    by_cases hc : m = 0 ∧ 1 ≤ F
    · obtain ⟨rfl, hF1⟩ := hc
      have q0 : 0 ≤ (t - 360) / 60 := by rw [HF.out]; omega
      have q1 : (t - 360) / 60 ≤ 16777216 := by omega
      clear hm
      by_cases h2 : 1 < F
      · have tt : decide (1 < (t - 360) / 60) = true := decide_eq_true (by rw [HF.out]; omega)
        go_wp2
        go_round
        case rel => exact ⟨F, by rw [HF.out], .inr ⟨rfl, hF1⟩⟩
        case measure => have := HF.out; simp [intOf]; omega
      · have tt : decide (1 < (t - 360) / 60) = false := decide_eq_false (by rw [HF.out]; omega)
        go_wp2
        go_round
        case rel => exact ⟨F, by rw [show F = 1 from by omega], .inr ⟨rfl, hF1⟩⟩
        case measure => simp [intOf]; omega
    · have hge : F ≤ m := by omega
      have hle : m ≤ 0 ∨ m = F := by omega
      have hx : t < 360 + 60 * (m + 1) := by omega
      have m0 : 0 ≤ m := by omega
      have m1 : m ≤ 300000 := by omega
      clear hm hc hle
      go_wp2
      go_loop [6] (fun n => ∃ j : Int, n = .int .i64 j ∧ F ≤ j ∧ j ≤ 300000) (fun n => (intOf n - F).toNat)
      case atStart => exact ⟨m, rfl, hge, m1⟩
      case round =>
        obtain ⟨j, rfl, j0, j1⟩ := hrel
        by_cases hj : F < j
        · have hy : t < 360 + 60 * j := by omega
          go_wp2
          go_round
          case rel => exact ⟨j - 1, rfl, by omega, by omega⟩
          case measure => simp [intOf]; omega
        · have hy : 360 + 60 * j ≤ t := by omega
          have hz := Lib.hid (show j = F from by omega)
          clear hj
          go_wp2
          go_ret2
          exact ⟨ret_pair hz.out rfl, rfl⟩
set_option maxRecDepth 100000 in
set_option maxHeartbeats 1000000 in
theorem rshift_2 (t F : Int) (t0 : 0 ≤ t) (t1 : t ≤ 16777216) (hF : (t - 360) / 120 = F) (w : World) :
    Calls Tryd.prog 18 #[.int .i64 t, .int .i64 2] w fun e w' => e = .returned (.tuple #[.int .i64 F, .int .i64 0]) ∧ w = w' := by
  have C0 := Lib.hid (rtime_is t true (decide_eq_true ⟨t0, t1⟩) w)
  have f0 : 120 * F ≤ t - 360 := by omega
  have f1 : t - 360 < 120 * F + 120 := by omega
  have HF := Lib.hid hF
  clear hF
  go_enter Tryd.func18, Tryd.ntmps18
  go_wp2_with fail
  refine C0.out.mono ?_; rintro e w' ⟨rfl, rfl⟩
  go_wp2
  go_loop [6, 7] (fun n _ => ∃ m : Int, n = .int .i64 m ∧ (m = 0 ∨ (m = F ∧ 1 ≤ F))) (fun n _ => (F + 1 - intOf n).toNat)
  case atStart => exact ⟨0, rfl, .inl rfl⟩
  case round =>
    obtain ⟨m, rfl, hm⟩ := hrel
    by_cases hc : m = 0 ∧ 1 ≤ F
    · obtain ⟨rfl, hF1⟩ := hc
      have q0 : 0 ≤ (t - 360) / 120 := by rw [HF.out]; omega
      have q1 : (t - 360) / 120 ≤ 16777216 := by omega
      clear hm
      by_cases h2 : 1 < F
      · have tt : decide (1 < (t - 360) / 120) = true := decide_eq_true (by rw [HF.out]; omega)
        go_wp2
        go_round
        case rel => exact ⟨F, by rw [HF.out], .inr ⟨rfl, hF1⟩⟩
        case measure => have := HF.out; simp [intOf]; omega
      · have tt : decide (1 < (t - 360) / 120) = false := decide_eq_false (by rw [HF.out]; omega)
        go_wp2
        go_round
        case rel => exact ⟨F, by rw [show F = 1 from by omega], .inr ⟨rfl, hF1⟩⟩
        case measure => simp [intOf]; omega
    · have hge : F ≤ m := by omega
      have hle : m ≤ 0 ∨ m = F := by omega
      have hx : t < 360 + 120 * (m + 1) := by omega
      have m0 : 0 ≤ m := by omega
      have m1 : m ≤ 300000 := by omega
      clear hm hc hle
      go_wp2
      go_loop [6] (fun n => ∃ j : Int, n = .int .i64 j ∧ F ≤ j ∧ j ≤ 300000) (fun n => (intOf n - F).toNat)
      case atStart => exact ⟨m, rfl, hge, m1⟩
      case round =>
        obtain ⟨j, rfl, j0, j1⟩ := hrel
        by_cases hj : F < j
        · have hy : t < 360 + 120 * j := by omega
          go_wp2
          go_round
          case rel => exact ⟨j - 1, rfl, by omega, by omega⟩
          case measure => simp [intOf]; omega
        · have hy : 360 + 120 * j ≤ t := by omega
          have hz := Lib.hid (show j = F from by omega)
          clear hj
          go_wp2
          go_ret2
          exact ⟨ret_pair hz.out rfl, rfl⟩
set_option maxRecDepth 100000 in
set_option maxHeartbeats 1000000 in
theorem rshift_3 (t F : Int) (t0 : 0 ≤ t) (t1 : t ≤ 16777216) (hF : (t - 360) / 180 = F) (w : World) :
    Calls Tryd.prog 18 #[.int .i64 t, .int .i64 3] w fun e w' => e = .returned (.tuple #[.int .i64 F, .int .i64 0]) ∧ w = w' := by
  have C0 := Lib.hid (rtime_is t true (decide_eq_true ⟨t0, t1⟩) w)
  have f0 : 180 * F ≤ t - 360 := by omega
  have f1 : t - 360 < 180 * F + 180 := by omega
  have HF := Lib.hid hF
  clear hF
  go_enter Tryd.func18, Tryd.ntmps18
  go_wp2_with fail
  refine C0.out.mono ?_; rintro e w' ⟨rfl, rfl⟩
  go_wp2
  go_loop [6, 7] (fun n _ => ∃ m : Int, n = .int .i64 m ∧ (m = 0 ∨ (m = F ∧ 1 ≤ F))) (fun n _ => (F + 1 - intOf n).toNat)
  case atStart => exact ⟨0, rfl, .inl rfl⟩
  case round =>
    obtain ⟨m, rfl, hm⟩ := hrel
    by_cases hc : m = 0 ∧ 1 ≤ F
    · obtain ⟨rfl, hF1⟩ := hc
      have q0 : 0 ≤ (t - 360) / 180 := by rw [HF.out]; omega
      have q1 : (t - 360) / 180 ≤ 16777216 := by omega
      clear hm
      by_cases h2 : 1 < F
      · have tt : decide (1 < (t - 360) / 180) = true := decide_eq_true (by rw [HF.out]; omega)
        go_wp2
        go_round
        case rel => exact ⟨F, by rw [HF.out], .inr ⟨rfl, hF1⟩⟩
        case measure => have := HF.out; simp [intOf]; omega
      · have tt : decide (1 < (t - 360) / 180) = false := decide_eq_false (by rw [HF.out]; omega)
        go_wp2
        go_round
        case rel => exact ⟨F, by rw [show F = 1 from by omega], .inr ⟨rfl, hF1⟩⟩
        case measure => simp [intOf]; omega
    · have hge : F ≤ m := by omega
      have hle : m ≤ 0 ∨ m = F := by omega
      have hx : t < 360 + 180 * (m + 1) := by omega
      have m0 : 0 ≤ m := by omega
      have m1 : m ≤ 300000 := by omega
      clear hm hc hle
      go_wp2
      go_loop [6] (fun n => ∃ j : Int, n = .int .i64 j ∧ F ≤ j ∧ j ≤ 300000) (fun n => (intOf n - F).toNat)
      case atStart => exact ⟨m, rfl, hge, m1⟩
      case round =>
        obtain ⟨j, rfl, j0, j1⟩ := hrel
        by_cases hj : F < j
        · have hy : t < 360 + 180 * j := by omega
          go_wp2
          go_round
          case rel => exact ⟨j - 1, rfl, by omega, by omega⟩
          case measure => simp [intOf]; omega
        · have hy : 360 + 180 * j ≤ t := by omega
          have hz := Lib.hid (show j = F from by omega)
          clear hj
          go_wp2
          go_ret2
          exact ⟨ret_pair hz.out rfl, rfl⟩
set_option maxRecDepth 100000 in
set_option maxHeartbeats 1000000 in
theorem rshift_4 (t F : Int) (t0 : 0 ≤ t) (t1 : t ≤ 16777216) (hF : (t - 360) / 240 = F) (w : World) :
    Calls Tryd.prog 18 #[.int .i64 t, .int .i64 4] w fun e w' => e = .returned (.tuple #[.int .i64 F, .int .i64 0]) ∧ w = w' := by
  have C0 := Lib.hid (rtime_is t true (decide_eq_true ⟨t0, t1⟩) w)
  have f0 : 240 * F ≤ t - 360 := by omega
  have f1 : t - 360 < 240 * F + 240 := by omega
  have HF := Lib.hid hF
  clear hF
  go_enter Tryd.func18, Tryd.ntmps18
  go_wp2_with fail
  refine C0.out.mono ?_; rintro e w' ⟨rfl, rfl⟩
  go_wp2
  go_loop [6, 7] (fun n _ => ∃ m : Int, n = .int .i64 m ∧ (m = 0 ∨ (m = F ∧ 1 ≤ F))) (fun n _ => (F + 1 - intOf n).toNat)
  case atStart => exact ⟨0, rfl, .inl rfl⟩
  case round =>
    obtain ⟨m, rfl, hm⟩ := hrel
    by_cases hc : m = 0 ∧ 1 ≤ F
    · obtain ⟨rfl, hF1⟩ := hc
      have q0 : 0 ≤ (t - 360) / 240 := by rw [HF.out]; omega
      have q1 : (t - 360) / 240 ≤ 16777216 := by omega
      clear hm
      by_cases h2 : 1 < F
      · have tt : decide (1 < (t - 360) / 240) = true := decide_eq_true (by rw [HF.out]; omega)
        go_wp2
        go_round
        case rel => exact ⟨F, by rw [HF.out], .inr ⟨rfl, hF1⟩⟩
        case measure => have := HF.out; simp [intOf]; omega
      · have tt : decide (1 < (t - 360) / 240) = false := decide_eq_false (by rw [HF.out]; omega)
        go_wp2
        go_round
        case rel => exact ⟨F, by rw [show F = 1 from by omega], .inr ⟨rfl, hF1⟩⟩
        case measure => simp [intOf]; omega
    · have hge : F ≤ m := by omega
      have hle : m ≤ 0 ∨ m = F := by omega
      have hx : t < 360 + 240 * (m + 1) := by omega
      have m0 : 0 ≤ m := by omega
      have m1 : m ≤ 300000 := by omega
      clear hm hc hle
      go_wp2
      go_loop [6] (fun n => ∃ j : Int, n = .int .i64 j ∧ F ≤ j ∧ j ≤ 300000) (fun n => (intOf n - F).toNat)
      case atStart => exact ⟨m, rfl, hge, m1⟩
      case round =>
        obtain ⟨j, rfl, j0, j1⟩ := hrel
        by_cases hj : F < j
        · have hy : t < 360 + 240 * j := by omega
          go_wp2
          go_round
          case rel => exact ⟨j - 1, rfl, by omega, by omega⟩
          case measure => simp [intOf]; omega
        · have hy : 360 + 240 * j ≤ t := by omega
          have hz := Lib.hid (show j = F from by omega)
          clear hj
          go_wp2
          go_ret2
          exact ⟨ret_pair hz.out rfl, rfl⟩
set_option maxRecDepth 100000 in
set_option maxHeartbeats 1000000 in
theorem rshift_6 (t F : Int) (t0 : 0 ≤ t) (t1 : t ≤ 16777216) (hF : (t - 360) / 360 = F) (w : World) :
    Calls Tryd.prog 18 #[.int .i64 t, .int .i64 6] w fun e w' => e = .returned (.tuple #[.int .i64 F, .int .i64 0]) ∧ w = w' := by
  have C0 := Lib.hid (rtime_is t true (decide_eq_true ⟨t0, t1⟩) w)
  have f0 : 360 * F ≤ t - 360 := by omega
  have f1 : t - 360 < 360 * F + 360 := by omega
  have HF := Lib.hid hF
  clear hF
  go_enter Tryd.func18, Tryd.ntmps18
  go_wp2_with fail
  refine C0.out.mono ?_; rintro e w' ⟨rfl, rfl⟩
  go_wp2
  go_loop [6, 7] (fun n _ => ∃ m : Int, n = .int .i64 m ∧ (m = 0 ∨ (m = F ∧ 1 ≤ F))) (fun n _ => (F + 1 - intOf n).toNat)
  case atStart => exact ⟨0, rfl, .inl rfl⟩
  case round =>
    obtain ⟨m, rfl, hm⟩ := hrel
    by_cases hc : m = 0 ∧ 1 ≤ F
    · obtain ⟨rfl, hF1⟩ := hc
      have q0 : 0 ≤ (t - 360) / 360 := by rw [HF.out]; omega
      have q1 : (t - 360) / 360 ≤ 16777216 := by omega
      clear hm
      by_cases h2 : 1 < F
      · have tt : decide (1 < (t - 360) / 360) = true := decide_eq_true (by rw [HF.out]; omega)
        go_wp2
        go_round
        case rel => exact ⟨F, by rw [HF.out], .inr ⟨rfl, hF1⟩⟩
        case measure => have := HF.out; simp [intOf]; omega
      · have tt : decide (1 < (t - 360) / 360) = false := decide_eq_false (by rw [HF.out]; omega)
        go_wp2
        go_round
        case rel => exact ⟨F, by rw [show F = 1 from by omega], .inr ⟨rfl, hF1⟩⟩
        case measure => simp [intOf]; omega
    · have hge : F ≤ m := by omega
      have hle : m ≤ 0 ∨ m = F := by omega
      have hx : t < 360 + 360 * (m + 1) := by omega
      have m0 : 0 ≤ m := by omega
      have m1 : m ≤ 300000 := by omega
      clear hm hc hle
      go_wp2
      go_loop [6] (fun n => ∃ j : Int, n = .int .i64 j ∧ F ≤ j ∧ j ≤ 300000) (fun n => (intOf n - F).toNat)
      case atStart => exact ⟨m, rfl, hge, m1⟩
      case round =>
        obtain ⟨j, rfl, j0, j1⟩ := hrel
        by_cases hj : F < j
        · have hy : t < 360 + 360 * j := by omega
          go_wp2
          go_round
          case rel => exact ⟨j - 1, rfl, by omega, by omega⟩
          case measure => simp [intOf]; omega
        · have hy : 360 + 360 * j ≤ t := by omega
          have hz := Lib.hid (show j = F from by omega)
          clear hj
          go_wp2
          go_ret2
          exact ⟨ret_pair hz.out rfl, rfl⟩
set_option maxRecDepth 100000 in
set_option maxHeartbeats 1000000 in
theorem rshift_8 (t F : Int) (t0 : 0 ≤ t) (t1 : t ≤ 16777216) (hF : (t - 360) / 480 = F) (w : World) :
    Calls Tryd.prog 18 #[.int .i64 t, .int .i64 8] w fun e w' => e = .returned (.tuple #[.int .i64 F, .int .i64 0]) ∧ w = w' := by
  have C0 := Lib.hid (rtime_is t true (decide_eq_true ⟨t0, t1⟩) w)
  have f0 : 480 * F ≤ t - 360 := by omega
  have f1 : t - 360 < 480 * F + 480 := by omega
  have HF := Lib.hid hF
  clear hF
  go_enter Tryd.func18, Tryd.ntmps18
  go_wp2_with fail
  refine C0.out.mono ?_; rintro e w' ⟨rfl, rfl⟩
  go_wp2
  go_loop [6, 7] (fun n _ => ∃ m : Int, n = .int .i64 m ∧ (m = 0 ∨ (m = F ∧ 1 ≤ F))) (fun n _ => (F + 1 - intOf n).toNat)
  case atStart => exact ⟨0, rfl, .inl rfl⟩
  case round =>
    obtain ⟨m, rfl, hm⟩ := hrel
    by_cases hc : m = 0 ∧ 1 ≤ F
    · obtain ⟨rfl, hF1⟩ := hc
      have q0 : 0 ≤ (t - 360) / 480 := by rw [HF.out]; omega
      have q1 : (t - 360) / 480 ≤ 16777216 := by omega
      clear hm
      by_cases h2 : 1 < F
      · have tt : decide (1 < (t - 360) / 480) = true := decide_eq_true (by rw [HF.out]; omega)
        go_wp2
        go_round
        case rel => exact ⟨F, by rw [HF.out], .inr ⟨rfl, hF1⟩⟩
        case measure => have := HF.out; simp [intOf]; omega
      · have tt : decide (1 < (t - 360) / 480) = false := decide_eq_false (by rw [HF.out]; omega)
        go_wp2
        go_round
        case rel => exact ⟨F, by rw [show F = 1 from by omega], .inr ⟨rfl, hF1⟩⟩
        case measure => simp [intOf]; omega
    · have hge : F ≤ m := by omega
      have hle : m ≤ 0 ∨ m = F := by omega
      have hx : t < 360 + 480 * (m + 1) := by omega
      have m0 : 0 ≤ m := by omega
      have m1 : m ≤ 300000 := by omega
      clear hm hc hle
      go_wp2
      go_loop [6] (fun n => ∃ j : Int, n = .int .i64 j ∧ F ≤ j ∧ j ≤ 300000) (fun n => (intOf n - F).toNat)
      case atStart => exact ⟨m, rfl, hge, m1⟩
      case round =>
        obtain ⟨j, rfl, j0, j1⟩ := hrel
        by_cases hj : F < j
        · have hy : t < 360 + 480 * j := by omega
          go_wp2
          go_round
          case rel => exact ⟨j - 1, rfl, by omega, by omega⟩
          case measure => simp [intOf]; omega
        · have hy : 360 + 480 * j ≤ t := by omega
          have hz := Lib.hid (show j = F from by omega)
          clear hj
          go_wp2
          go_ret2
          exact ⟨ret_pair hz.out rfl, rfl⟩
set_option maxRecDepth 100000 in
set_option maxHeartbeats 1000000 in
theorem rshift_12 (t F : Int) (t0 : 0 ≤ t) (t1 : t ≤ 16777216) (hF : (t - 360) / 720 = F) (w : World) :
    Calls Tryd.prog 18 #[.int .i64 t, .int .i64 12] w fun e w' => e = .returned (.tuple #[.int .i64 F, .int .i64 0]) ∧ w = w' := by
  have C0 := Lib.hid (rtime_is t true (decide_eq_true ⟨t0, t1⟩) w)
  have f0 : 720 * F ≤ t - 360 := by omega
  have f1 : t - 360 < 720 * F + 720 := by omega
  have HF := Lib.hid hF
  clear hF
  go_enter Tryd.func18, Tryd.ntmps18
  go_wp2_with fail
  refine C0.out.mono ?_; rintro e w' ⟨rfl, rfl⟩
  go_wp2
  go_loop [6, 7] (fun n _ => ∃ m : Int, n = .int .i64 m ∧ (m = 0 ∨ (m = F ∧ 1 ≤ F))) (fun n _ => (F + 1 - intOf n).toNat)
  case atStart => exact ⟨0, rfl, .inl rfl⟩
  case round =>
    obtain ⟨m, rfl, hm⟩ := hrel
    by_cases hc : m = 0 ∧ 1 ≤ F
    · obtain ⟨rfl, hF1⟩ := hc
      have q0 : 0 ≤ (t - 360) / 720 := by rw [HF.out]; omega
      have q1 : (t - 360) / 720 ≤ 16777216 := by omega
      clear hm
      by_cases h2 : 1 < F
      · have tt : decide (1 < (t - 360) / 720) = true := decide_eq_true (by rw [HF.out]; omega)
        go_wp2
        go_round
        case rel => exact ⟨F, by rw [HF.out], .inr ⟨rfl, hF1⟩⟩
        case measure => have := HF.out; simp [intOf]; omega
      · have tt : decide (1 < (t - 360) / 720) = false := decide_eq_false (by rw [HF.out]; omega)
        go_wp2
        go_round
        case rel => exact ⟨F, by rw [show F = 1 from by omega], .inr ⟨rfl, hF1⟩⟩
        case measure => simp [intOf]; omega
    · have hge : F ≤ m := by omega
      have hle : m ≤ 0 ∨ m = F := by omega
      have hx : t < 360 + 720 * (m + 1) := by omega
      have m0 : 0 ≤ m := by omega
      have m1 : m ≤ 300000 := by omega
      clear hm hc hle
      go_wp2
      go_loop [6] (fun n => ∃ j : Int, n = .int .i64 j ∧ F ≤ j ∧ j ≤ 300000) (fun n => (intOf n - F).toNat)
      case atStart => exact ⟨m, rfl, hge, m1⟩
      case round =>
        obtain ⟨j, rfl, j0, j1⟩ := hrel
        by_cases hj : F < j
        · have hy : t < 360 + 720 * j := by omega
          go_wp2
          go_round
          case rel => exact ⟨j - 1, rfl, by omega, by omega⟩
          case measure => simp [intOf]; omega
        · have hy : 360 + 720 * j ≤ t := by omega
          have hz := Lib.hid (show j = F from by omega)
          clear hj
          go_wp2
          go_ret2
          exact ⟨ret_pair hz.out rfl, rfl⟩
set_option maxRecDepth 100000 in
set_option maxHeartbeats 1000000 in
theorem rshift_24 (t F : Int) (t0 : 0 ≤ t) (t1 : t ≤ 16777216) (hF : (t - 360) / 1440 = F) (w : World) :
    Calls Tryd.prog 18 #[.int .i64 t, .int .i64 24] w fun e w' => e = .returned (.tuple #[.int .i64 F, .int .i64 0]) ∧ w = w' := by
  have C0 := Lib.hid (rtime_is t true (decide_eq_true ⟨t0, t1⟩) w)
  have f0 : 1440 * F ≤ t - 360 := by omega
  have f1 : t - 360 < 1440 * F + 1440 := by omega
  have HF := Lib.hid hF
  clear hF
  go_enter Tryd.func18, Tryd.ntmps18
  go_wp2_with fail
  refine C0.out.mono ?_; rintro e w' ⟨rfl, rfl⟩
  go_wp2
  go_loop [6, 7] (fun n _ => ∃ m : Int, n = .int .i64 m ∧ (m = 0 ∨ (m = F ∧ 1 ≤ F))) (fun n _ => (F + 1 - intOf n).toNat)
  case atStart => exact ⟨0, rfl, .inl rfl⟩
  case round =>
    obtain ⟨m, rfl, hm⟩ := hrel
    by_cases hc : m = 0 ∧ 1 ≤ F
    · obtain ⟨rfl, hF1⟩ := hc
      have q0 : 0 ≤ (t - 360) / 1440 := by rw [HF.out]; omega
      have q1 : (t - 360) / 1440 ≤ 16777216 := by omega
      clear hm
      by_cases h2 : 1 < F
      · have tt : decide (1 < (t - 360) / 1440) = true := decide_eq_true (by rw [HF.out]; omega)
        go_wp2
        go_round
        case rel => exact ⟨F, by rw [HF.out], .inr ⟨rfl, hF1⟩⟩
        case measure => have := HF.out; simp [intOf]; omega
      · have tt : decide (1 < (t - 360) / 1440) = false := decide_eq_false (by rw [HF.out]; omega)
        go_wp2
        go_round
        case rel => exact ⟨F, by rw [show F = 1 from by omega], .inr ⟨rfl, hF1⟩⟩
        case measure => simp [intOf]; omega
    · have hge : F ≤ m := by omega
      have hle : m ≤ 0 ∨ m = F := by omega
      have hx : t < 360 + 1440 * (m + 1) := by omega
      have m0 : 0 ≤ m := by omega
      have m1 : m ≤ 300000 := by omega
      clear hm hc hle
      go_wp2
      go_loop [6] (fun n => ∃ j : Int, n = .int .i64 j ∧ F ≤ j ∧ j ≤ 300000) (fun n => (intOf n - F).toNat)
      case atStart => exact ⟨m, rfl, hge, m1⟩
      case round =>
        obtain ⟨j, rfl, j0, j1⟩ := hrel
        by_cases hj : F < j
        · have hy : t < 360 + 1440 * j := by omega
          go_wp2
          go_round
          case rel => exact ⟨j - 1, rfl, by omega, by omega⟩
          case measure => simp [intOf]; omega
        · have hy : 360 + 1440 * j ≤ t := by omega
          have hz := Lib.hid (show j = F from by omega)
          clear hj
          go_wp2
          go_ret2
          exact ⟨ret_pair hz.out rfl, rfl⟩
theorem rshift_ok (t h : Int) (hh : shOk h = true) (ho : isTm t = true) (w : World) :
    Calls Tryd.prog 18 #[.int .i64 t, .int .i64 h] w fun e w' => e = .returned (.tuple #[.int .i64 ((t - 360) / (60 * h)), .int .i64 0]) ∧ w = w' := by
  unfold shOk at hh
  unfold isTm at ho
  obtain ⟨t0, t1⟩ := of_decide_eq_true ho
  rcases of_decide_eq_true hh with rfl | rfl | rfl | rfl | rfl | rfl | rfl | rfl
  · exact rshift_1 t _ t0 t1 rfl w
  · exact rshift_2 t _ t0 t1 rfl w
  · exact rshift_3 t _ t0 t1 rfl w
  · exact rshift_4 t _ t0 t1 rfl w
  · exact rshift_6 t _ t0 t1 rfl w
  · exact rshift_8 t _ t0 t1 rfl w
  · exact rshift_12 t _ t0 t1 rfl w
  · exact rshift_24 t _ t0 t1 rfl w
theorem rem_not (h : Int) (h0 : 1 ≤ h) (h1 : h ≤ 24) (hh : shOk h = false) : ((24 : Int) % h != 0) = true := by
  have hc : h = 1 ∨ h = 2 ∨ h = 3 ∨ h = 4 ∨ h = 5 ∨ h = 6 ∨ h = 7 ∨ h = 8 ∨ h = 9 ∨ h = 10 ∨ h = 11 ∨ h = 12 ∨ h = 13 ∨ h = 14 ∨ h = 15 ∨ h = 16 ∨ h = 17 ∨ h = 18 ∨ h = 19 ∨ h = 20 ∨ h = 21 ∨ h = 22 ∨ h = 23 ∨ h = 24 := by omega
  rcases hc with rfl | rfl | rfl | rfl | rfl | rfl | rfl | rfl | rfl | rfl | rfl | rfl | rfl | rfl | rfl | rfl | rfl | rfl | rfl | rfl | rfl | rfl | rfl | rfl <;> first | rfl | (exact absurd hh (by decide))
set_option maxRecDepth 100000 in
set_option maxHeartbeats 1000000 in
theorem rshift_no (t h : Int) (hh : shOk h = false) (ho : isTm t = true) (w : World) :
    Calls Tryd.prog 18 #[.int .i64 t, .int .i64 h] w fun e w' => e = .returned (.tuple #[.int .i64 0, .int .i64 5]) ∧ w = w' := by
  have C0 := Lib.hid (rtime_is t true ho w)
  by_cases c1 : h < 1
  · clear hh ho
    go_enter Tryd.func18, Tryd.ntmps18
    go_wp2_with fail
    refine C0.out.mono ?_; rintro e w' ⟨rfl, rfl⟩
    go_wp2
    go_ret2
    exact ⟨rfl, rfl⟩
  · by_cases c2 : 24 < h
    · have c3 : 1 ≤ h := by omega
      clear hh ho c1
      go_enter Tryd.func18, Tryd.ntmps18
      go_wp2_with fail
      refine C0.out.mono ?_; rintro e w' ⟨rfl, rfl⟩
      go_wp2
      go_ret2
      exact ⟨rfl, rfl⟩
    · have c3 : 1 ≤ h := by omega
      have c4 : h ≤ 24 := by omega
      have tt := rem_not h c3 c4 hh
      have hz : h ≠ 0 := by omega
      clear hh ho c1 c2
      go_enter Tryd.func18, Tryd.ntmps18
      go_wp2_with fail
      refine C0.out.mono ?_; rintro e w' ⟨rfl, rfl⟩
      go_wp2
      go_ret2
      exact ⟨rfl, rfl⟩
set_option maxRecDepth 100000 in
theorem rshift_bad (t h : Int) (ho : isTm t = false) (w : World) :
    Calls Tryd.prog 18 #[.int .i64 t, .int .i64 h] w fun e w' => e = .returned (.tuple #[.int .i64 0, .int .i64 11]) ∧ w = w' := by
  have C0 := Lib.hid (rtime_is t false ho w)
  clear ho
  go_enter Tryd.func18, Tryd.ntmps18
  go_wp2_with fail
  refine C0.out.mono ?_; rintro e w' ⟨rfl, rfl⟩
  go_wp2
  go_ret2
  exact ⟨rfl, rfl⟩
theorem rshift_is (t h v x : Int) (hv : shV t h = v) (hx : shE t h = x) (w : World) :
    Calls Tryd.prog 18 #[.int .i64 t, .int .i64 h] w fun e w' => e = .returned (.tuple #[.int .i64 v, .int .i64 x]) ∧ w = w' := by
  subst hv hx
  unfold shV shE
  by_cases ho : isTm t = true
  · by_cases hh : shOk h = true
    · rw [if_pos ho, if_pos ho, if_pos hh, if_pos hh]; exact rshift_ok t h hh ho w
    · rw [if_pos ho, if_pos ho, if_neg hh, if_neg hh]; exact rshift_no t h (Bool.eq_false_iff.2 hh) ho w
  · rw [if_neg ho, if_neg ho]; exact rshift_bad t h (Bool.eq_false_iff.2 ho) w
end Go.Proofs.YticehhmfbpjamaaDoor.cal
