/- The letters of skills: the walk of layer 5's program. No condition. -/
import Derived.Test.YthdjpmiohfaphaaGreatDoorRgL
namespace Go.Proofs.YthdjpmiohfaphaaGreatDoor.reg
open Go.RowKit lex aggs kit net strs

set_option maxRecDepth 100000 in
theorem lettersOf_is (k : Nat) (hk : k < 32) (w : World) :
    Calls Tryz.prog 54 #[.int .i64 k] w fun e w' => e = .returned (.string (bs (letters k))) ∧ Below w.heap.size w w' := by
  have BX := Lib.hid (Below.refl w.heap.size w)
  go_enter Tryz.func54, Tryz.ntmps54
  go_wp2_with fail
  go_loopw [3, 5] (fun st iv wr => ∃ i : Nat, i ≤ 5 ∧ iv = .int .i64 i ∧ Hid (w = wr) ∧ ∃ y : ByteArray, st = .string y ∧ y.size ≤ 5 ∧ Hid (y = bs (pre k i))) (fun _ iv _ => 5 - (intOf iv).toNat)
  case atStart => exact ⟨0, by decide, rfl, rfl, _, rfl, by decide, rfl⟩
  case round =>
    obtain ⟨i, hi5, rfl, hw, y, rfl, hy, hp⟩ := hrel
    obtain rfl := hw.out
    by_cases hi : i < 5
    · have TB := bit_is k hk i hi
      have SE := Lib.hid (seiht_is i hi)
      have hii : (i : Int) < 5 := by omega
      have szx : ((⟨#[115, 101, 105, 104, 116]⟩ : ByteArray).extract i (i + 1)).size = 1 := by rw [SE.out, bs_size]; rfl
      have hyl : y.size ≤ i := by rw [hp.out, bs_size]; exact pre_len k i
      by_cases hb : k / 2 ^ i % 2 = 1
      · rw [decide_eq_true hb] at TB
        have hn : Hid (y ++ (⟨#[115, 101, 105, 104, 116]⟩ : ByteArray).extract i (i + 1) = bs (pre k (i + 1))) := by
          show _ = _
          rw [SE.out, hp.out, bs_append]
          congr 1
          show _ = pre k i ++ bit k i (chr i)
          unfold bit
          rw [if_pos hb]
        clear hb
        go_wp2_with fail
        go_roundw
        case rel => exact ⟨i + 1, by omega, by go_num, trivial, _, rfl, by rw [ByteArray.size_append, szx]; omega, hn⟩
        case measure => simp [intOf]; omega
      · rw [decide_eq_false hb] at TB
        have hn : Hid (y = bs (pre k (i + 1))) := by
          show _ = _
          rw [hp.out]
          congr 1
          show _ = pre k i ++ bit k i (chr i)
          unfold bit
          rw [if_neg hb, List.append_nil]
        clear hb
        go_wp2_with fail
        go_roundw
        case rel => exact ⟨i + 1, by omega, by go_num, trivial, _, rfl, hy, hn⟩
        case measure => simp [intOf]; omega
    · obtain rfl : i = 5 := by omega
      have hl : Hid (y = bs (lets k)) := by show _ = _; rw [hp.out, pre_lets]
      by_cases e : lets k = []
      · have hy0 : y = ⟨#[]⟩ := by rw [hl.out, e]; rfl
        have hL : letters k = [45] := by unfold letters; rw [if_pos e]
        have HL := Lib.hid hL
        subst hy0
        clear e hL
        go_wp2
        go_ret
        exact ⟨by rw [HL.out]; rfl, BX.out⟩
      · have TE : (y.toList == []) = false := by
          rw [Lib.toList_data, hl.out, bs_data]
          exact beq_eq_false_iff_ne.2 e
        have hL : letters k = lets k := by unfold letters; rw [if_neg e]
        have HL := Lib.hid hL
        clear e hL
        go_wp2
        go_ret
        exact ⟨by rw [HL.out, hl.out]; rfl, BX.out⟩
end Go.Proofs.YthdjpmiohfaphaaGreatDoor.reg
