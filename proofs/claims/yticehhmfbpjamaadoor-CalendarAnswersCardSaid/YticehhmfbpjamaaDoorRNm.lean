/- The walks of the reference of layer 1: digit, Number. They compute what the program's own functions compute. -/
import Derived.Test.YticehhmfbpjamaaDoorLexA
import Derived.BigGuardPart
namespace Go.Proofs.YticehhmfbpjamaaDoor.lex
open Go.RowKit

set_option maxRecDepth 100000 in
theorem digit_int (n : Int) (b : Bool) (hb : decide (48 ≤ n ∧ n ≤ 57) = b) (w : World) :
    Calls Tryd.prog 54 #[.int .u8 n] w fun e w' => e = .returned (.bool b) ∧ w = w' := by
  have hr : n < 48 ∨ (48 ≤ n ∧ n ≤ 57) ∨ (48 ≤ n ∧ 57 < n) := by omega
  rcases hr with hr | ⟨r1, r2⟩ | ⟨r1, r2⟩
  · rw [decide_eq_false (by omega)] at hb
    subst hb
    go_enter Tryd.func54, Tryd.ntmps54
    go_wp2
    all_goals (first | (exfalso; omega) | (go_ret; exact ⟨ret_bool (by first | rfl | exact decide_eq_true (by omega) | exact decide_eq_false (by omega)), rfl⟩))
  · rw [decide_eq_true (by omega)] at hb
    subst hb
    go_enter Tryd.func54, Tryd.ntmps54
    go_wp2
    all_goals (first | (exfalso; omega) | (go_ret; exact ⟨ret_bool (by first | rfl | exact decide_eq_true (by omega) | exact decide_eq_false (by omega)), rfl⟩))
  · rw [decide_eq_false (by omega)] at hb
    subst hb
    go_enter Tryd.func54, Tryd.ntmps54
    go_wp2
    all_goals (first | (exfalso; omega) | (go_ret; exact ⟨ret_bool (by first | rfl | exact decide_eq_true (by omega) | exact decide_eq_false (by omega)), rfl⟩))
theorem digit_any (c : UInt8) (w : World) :
    Calls Tryd.prog 54 #[.int .u8 (c.toNat : Int)] w fun e w' => e = .returned (.bool (isD c)) ∧ w = w' :=
  digit_int _ _ (by unfold isD; rw [decide_eq_decide]; omega) w
theorem digit_is (c : UInt8) (b : Bool) (hb : isD c = b) (w : World) :
    Calls Tryd.prog 54 #[.int .u8 (c.toNat : Int)] w fun e w' => e = .returned (.bool b) ∧ w = w' := by subst hb; exact digit_any c w

set_option maxRecDepth 100000 in
set_option maxHeartbeats 1000000 in
theorem rnumber_any (s : ByteArray) (most : Int) (w : World) (hs : s.size ≤ maxLen) (m0 : -9223372036854775808 ≤ most) (m1 : most ≤ 9223372036854775807) :
    Calls Tryd.prog 45 #[.string s, .int .i64 most] w fun e w' => e = .returned (.tuple #[.int .i64 (numV s.data.toList most), .bool (numB s.data.toList most)]) ∧ w = w' := by
  unfold maxLen at hs
  have hl : s.data.toList.length = s.size := by simp
  by_cases e0 : s.size = 0
  · have hb := numB_empty most (hl.trans e0)
    have hv := numV_no hb
    rw [hb, hv]
    have t1 : decide ((s.size : Int) < 1) = true := decide_eq_true (by omega)
    clear hb hv hl
    go_enter Tryd.func45, Tryd.ntmps45
    go_wp2
    go_ret2
    exact ⟨rfl, rfl⟩
  · have e0' : 0 < s.size := by omega
    have t1 : decide ((s.size : Int) < 1) = false := decide_eq_false (by omega)
    by_cases e1 : 1 < s.size ∧ s[0].toNat = 48
    · obtain ⟨e2, e3⟩ := e1
      have hb := numB_zero (l := s.data.toList) most (by omega) e3
      have hv := numV_no hb
      rw [hb, hv]
      have t2 : decide (1 < (s.size : Int)) = true := decide_eq_true (by omega)
      have z3 : ((s[0].toNat : Int) == 48) = true := by rw [beq_iff_eq]; omega
      clear hb hv hl e3
      go_enter Tryd.func45, Tryd.ntmps45
      go_wp2
      go_ret2
      exact ⟨rfl, rfl⟩
    · have hz : 1 < s.size → ((s[0].toNat : Int) == 48) = false := by
        intro h1; rw [beq_eq_false_iff_ne]; intro h2; exact e1 ⟨h1, by omega⟩
      have E1 := Lib.hid e1
      clear e1
      by_cases e2 : 1 < s.size
      all_goals
        first | (have t2 : decide (1 < (s.size : Int)) = true := decide_eq_true (by omega)) | (have t2 : decide (1 < (s.size : Int)) = false := decide_eq_false (by omega))
        try (have hz' := hz e2)
        clear hz
        go_enter Tryd.func45, Tryd.ntmps45
        go_wp2
        go_loop [6, 7] (fun n i => ∃ (k v : Nat), k ≤ s.size ∧ i = .int .i64 k ∧ n = .int .i64 v ∧ v ≤ 9223372036854775807 ∧ Hid (v = val (s.data.toList.take k)) ∧ Hid (∀ j (hj : j < s.data.toList.length), j < k → isD s.data.toList[j] = true)) (fun _ i => s.size - (intOf i).toNat)
        case atStart => exact ⟨0, 0, Nat.zero_le _, rfl, rfl, Nat.zero_le _, rfl, fun j hj h => absurd h (Nat.not_lt_zero j)⟩
        case round =>
          obtain ⟨k, v, hk, rfl, rfl, hv9, hv, hd⟩ := hrel
          by_cases hlt : k < s.size
          · by_cases hdig : isD s[k] = true
            · have hb := of_decide_eq_true hdig
              obtain ⟨hb1, hb2⟩ := hb
              have HD := Lib.hid hdig
              clear hdig
              have hvs : Hid (val (s.data.toList.take (k + 1)) = v * 10 + (s[k].toNat - 48)) := by
                rw [take_snoc _ _ (by omega), val_snoc, hv.out]; rfl
              by_cases hgr : (9223372036854775807 - ((s[k].toNat : Int) - 48)) / 10 < v
              · have hbig : Hid (numB s.data.toList most = false) := numB_great most (k := k + 1) (by rw [hvs.out]; omega)
                go_wp2_with (go_at_call 54; refine (digit_is _ true HD.out _).mono ?_; rintro e w' ⟨rfl, rfl⟩)
                go_ret2
                exact ⟨ret_num (numV_no hbig.out).symm hbig.out.symm, rfl⟩
              · have g2 : (v : Int) ≤ (9223372036854775807 - ((s[k].toNat : Int) - 48)) / 10 := by omega
                clear hgr
                have g3 : (v : Int) * 10 + ((s[k].toNat : Int) - 48) ≤ 9223372036854775807 := by omega
                have g4 : 10 * (v : Int) + ((s[k].toNat : Int) - 48) ≤ 9223372036854775807 := by omega
                go_wp2_with (go_at_call 54; refine (digit_is _ true HD.out _).mono ?_; rintro e w' ⟨rfl, rfl⟩)
                go_round
                case rel =>
                  refine ⟨k + 1, v * 10 + (s[k].toNat - 48), by omega, by go_num, congrArg _ (by omega), by omega, hvs.out.symm, ?_⟩
                  intro j hj hjk
                  by_cases e : j = k
                  · subst e; exact HD.out
                  · exact hd.out j hj (by omega)
                case measure => simp [intOf]; omega
            · have hn := Lib.hid (numB_other (l := s.data.toList) most (k := k) (by omega) (Bool.eq_false_iff.2 hdig))
              have HD := Lib.hid (Bool.eq_false_iff.2 hdig)
              clear hdig
              go_wp2_with (go_at_call 54; refine (digit_is _ false HD.out _).mono ?_; rintro e w' ⟨rfl, rfl⟩)
              go_ret2
              exact ⟨ret_num (numV_no hn.out).symm hn.out.symm, rfl⟩
          · have hk' : k = s.size := by omega
            have hall : s.data.toList.take k = s.data.toList := List.take_of_length_le (by omega)
            have hvv : v = val s.data.toList := by rw [hv.out, hall]
            by_cases hmost : (v : Int) ≤ most
            · have hy := Lib.hid (numB_yes (l := s.data.toList) (most := most) (by omega) (fun hh => E1.out ⟨by omega, hh.2⟩) (fun j hj => hd.out j hj (by omega)) (by rw [← hvv]; exact hmost))
              have HV := Lib.hid hvv
              clear hk' hall hvv
              go_wp2
              go_ret2
              exact ⟨ret_num (by rw [numV_yes hy.out, HV.out]) hy.out.symm, rfl⟩
            · have hbig : Hid (numB s.data.toList most = false) := numB_great most (k := k) (by rw [hall, ← hvv]; omega)
              clear hk' hall hvv
              go_wp2
              go_ret2
              exact ⟨ret_num (numV_no hbig.out).symm hbig.out.symm, rfl⟩
end Go.Proofs.YticehhmfbpjamaaDoor.lex
