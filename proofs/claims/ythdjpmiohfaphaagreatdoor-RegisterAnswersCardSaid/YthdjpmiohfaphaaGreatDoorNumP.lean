/- The walk of Number. Condition: the table 'classes' holds what its text lays. -/
import Derived.Test.YthdjpmiohfaphaaGreatDoorNamC
namespace Go.Proofs.YthdjpmiohfaphaaGreatDoor.lex
open Go.RowKit
set_option maxRecDepth 100000 in
set_option maxHeartbeats 1000000 in
theorem number_any (s : ByteArray) (most : Int) (w : World) (h : HasClasses w) (hs : s.size ≤ maxLen) (m0 : -9223372036854775808 ≤ most) (m1 : most ≤ 9223372036854775807) :
    Calls Tryz.prog 68 #[.string s, .int .i64 most] w fun e w' => e = .returned (.tuple #[.int .i64 (numV s.data.toList most), .bool (numB s.data.toList most)]) ∧ w = w' := by
  unfold maxLen at hs
  have H := Lib.hid h
  have hl : s.data.toList.length = s.size := by simp
  clear h
  by_cases e0 : s.size = 0
  · have hb := numB_empty most (hl.trans e0)
    have hv := numV_no hb
    rw [hb, hv]
    have z1 : s.toList = [] := by rw [Lib.toList_data]; exact List.eq_nil_of_length_eq_zero (hl.trans e0)
    have z2 : s.toList.isEmpty = true := by rw [z1]; rfl
    clear hb hv hl
    go_enter Tryz.func68, Tryz.ntmps68
    go_wp2
    go_ret2
    exact ⟨rfl, rfl⟩
  · have z1 : ¬ s.toList = [] := by rw [Lib.toList_data]; intro e; rw [e] at hl; exact e0 hl.symm
    have z2 : s.toList.isEmpty = false := by rw [List.isEmpty_eq_false_iff]; exact z1
    have e0' : 0 < s.size := by omega
    by_cases e1 : 1 < s.size ∧ s[0].toNat = 48
    · obtain ⟨e2, e3⟩ := e1
      have hb := numB_zero (l := s.data.toList) most (by omega) e3
      have hv := numV_no hb
      rw [hb, hv]
      have z3 : ((s[0].toNat : Int) == 48) = true := by rw [beq_iff_eq]; omega
      clear hb hv hl e3
      go_enter Tryz.func68, Tryz.ntmps68
      go_wp2
      go_ret2
      exact ⟨rfl, rfl⟩
    · have hz : 1 < s.size → ((s[0].toNat : Int) == 48) = false := by
        intro h1; rw [beq_eq_false_iff_ne]; intro h2; exact e1 ⟨h1, by omega⟩
      have E1 := Lib.hid e1
      clear e1
      by_cases e2 : 1 < s.size
      all_goals
        try (have hz' := hz e2)
        clear hz
        go_enter Tryz.func68, Tryz.ntmps68
        go_wp2
        go_loop [6, 23] (fun n i => ∃ (k v : Nat), k ≤ s.size ∧ i = .int .i64 k ∧ n = .int .i64 v ∧ Hid (v = val (s.data.toList.take k)) ∧ Hid (∀ j (hj : j < s.data.toList.length), j < k → isD s.data.toList[j] = true) ∧ (v : Int) ≤ max most 0 ∧ Hid (1 ≤ k → (v : Int) ≤ most)) (fun _ i => s.size - (intOf i).toNat)
        case atStart => exact ⟨0, 0, Nat.zero_le _, rfl, rfl, rfl, fun j hj h => absurd h (Nat.not_lt_zero j), by omega, fun h => absurd h (by omega)⟩
        case round =>
          obtain ⟨k, v, hk, rfl, rfl, hv, hd, hm, hm1⟩ := hrel
          by_cases hlt : k < s.size
          · by_cases hdig : isD s[k] = true
            · have hb := of_decide_eq_true hdig
              obtain ⟨hb1, hb2⟩ := hb
              have HC := Lib.hid (cls_digit hdig)
              have HD := Lib.hid hdig
              clear hdig
              have hvs : Hid (val (s.data.toList.take (k + 1)) = v * 10 + (s[k].toNat - 48)) := by
                rw [take_snoc _ _ (by omega), val_snoc, hv.out]; rfl
              by_cases hgr : most < (s[k].toNat : Int) - 48 ∨ (most - ((s[k].toNat : Int) - 48)) / 10 < v
              · have hbig : Hid (numB s.data.toList most = false) := numB_great most (k := k + 1) (by rw [hvs.out]; omega)
                rcases hgr with hgr | hgr
                all_goals
                  go_wp2_with (go_at_call 57; refine (classOf_is _ 4 HC.out _ H.out).mono ?_; rintro e w' ⟨rfl, rfl⟩)
                  all_goals go_ret2
                  all_goals exact ⟨ret_num (numV_no hbig.out).symm hbig.out.symm, rfl⟩
              · obtain ⟨g1, g2⟩ : (s[k].toNat : Int) - 48 ≤ most ∧ (v : Int) ≤ (most - ((s[k].toNat : Int) - 48)) / 10 := by omega
                clear hgr
                have g3 : (v : Int) * 10 + ((s[k].toNat : Int) - 48) ≤ most := by omega
                go_wp2_with (go_at_call 57; refine (classOf_is _ 4 HC.out _ H.out).mono ?_; rintro e w' ⟨rfl, rfl⟩)
                go_round
                case rel =>
                  refine ⟨k + 1, v * 10 + (s[k].toNat - 48), by omega, by go_num, congrArg _ (by omega), hvs.out.symm, ?_, by omega, fun _ => by omega⟩
                  intro j hj hjk
                  by_cases e : j = k
                  · subst e; exact HD.out
                  · exact hd.out j hj (by omega)
                case measure => simp [intOf]; omega
            · have hn := Lib.hid (numB_other (l := s.data.toList) most (k := k) (by omega) (Bool.eq_false_iff.2 hdig))
              have HC := cls_not_digit (Bool.eq_false_iff.2 hdig)
              obtain ⟨n, hcn⟩ : ∃ n, clsI s[k].toNat = n := ⟨_, rfl⟩
              rw [hcn] at HC
              have HN := Lib.hid hcn
              have HC' : (n != 4) = true := by rw [bne_iff_ne]; exact HC
              clear hcn hdig HC
              go_wp2_with (go_at_call 57; refine (classOf_is _ n HN.out _ H.out).mono ?_; rintro e w' ⟨rfl, rfl⟩)
              go_ret2
              exact ⟨ret_num (numV_no hn.out).symm hn.out.symm, rfl⟩
          · have hk' : k = s.size := by omega
            have hall : s.data.toList.take k = s.data.toList := List.take_of_length_le (by omega)
            have hvv : v = val s.data.toList := by rw [hv.out, hall]
            have hmost := hm1.out (by omega)
            have hy := Lib.hid (numB_yes (l := s.data.toList) (most := most) (by omega) (fun hh => E1.out ⟨by omega, hh.2⟩) (fun j hj => hd.out j hj (by omega)) (by rw [← hvv]; exact hmost))
            have HV := Lib.hid hvv
            clear hk' hall hvv hmost
            go_wp2
            go_ret2
            exact ⟨ret_num (by rw [numV_yes hy.out, HV.out]) hy.out.symm, rfl⟩
end Go.Proofs.YthdjpmiohfaphaaGreatDoor.lex
