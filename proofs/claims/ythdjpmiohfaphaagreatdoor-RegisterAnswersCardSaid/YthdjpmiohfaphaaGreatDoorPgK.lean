/- The walk of layer 5's program: skillsOf: the skills of letters. No condition. -/
import Derived.Test.YthdjpmiohfaphaaGreatDoorPgJ
namespace Go.Proofs.YthdjpmiohfaphaaGreatDoor.reg
open Go.RowKit lex aggs kit net strs

theorem skN_none {w : List UInt8} (h : ∀ k, k < 32 → letters k ≠ w) : skN w = 32 := by
  rcases Nat.lt_or_ge (skN w) 32 with h1 | h1
  · exact absurd (skN_lt h1) (h _ h1)
  · exact Nat.le_antisymm (skN_le w) h1
theorem skN_hit {w : List UInt8} {k : Nat} (hk : k < 32) (h : letters k = w) : skN w = k := by rw [← h]; exact skN_letters hk
set_option maxRecDepth 100000 in
set_option maxHeartbeats 2000000 in
theorem skillsOf_is (x : List UInt8) (v : Int) (b : Bool) (hb : decide (skN x < 32) = b) (hv : (if skN x < 32 then (skN x : Int) else 0) = v) (w : World) :
    Calls Tryz.prog 69 #[.string (bs x)] w fun e w' => e = .returned (.tuple #[.int .i64 v, .bool b]) ∧ Below w.heap.size w w' := by
  obtain ⟨s, hs⟩ : ∃ s, bs x = s := ⟨_, rfl⟩
  rw [hs]
  have HS := Lib.hid hs
  have HB := Lib.hid hb
  have HV := Lib.hid hv
  clear hs hb hv
  go_enter Tryz.func69, Tryz.ntmps69
  go_wp2_with fail
  go_loopw [5] (fun iv wr => ∃ i : Nat, i ≤ 32 ∧ iv = .int .i64 i ∧ Hid (Below w.heap.size w wr) ∧ Hid (∀ k, k < i → letters k ≠ x)) (fun iv _ => 32 - (intOf iv).toNat)
  case atStart => exact ⟨0, by decide, rfl, Below.refl _ _, fun k hk => by cases hk⟩
  case round =>
    obtain ⟨i, hi5, rfl, BL, NO⟩ := hrel
    by_cases hi : i < 32
    · have hii : (i : Int) < 32 := by omega
      have LT := lettersOf_is i hi wr
      go_wp2_with fail
      refine LT.mono ?_; rintro e w2 ⟨rfl, b2⟩
      have BL2 := Lib.hid (BL.out.trans (b2.mono BL.out.size))
      clear b2 LT
      obtain ⟨y, hy⟩ : ∃ y, bs (letters i) = y := ⟨_, rfl⟩
      rw [hy]
      by_cases e : letters i = x
      · have TE : (y.toList == s.toList) = true := by rw [str_eq, ← hy, ← HS.out, e]; exact decide_eq_true rfl
        have h1 := skN_hit hi e
        have hb1 : b = true := by rw [← HB.out, h1]; exact decide_eq_true hi
        have hv1 : v = i := by rw [← HV.out, h1, if_pos hi]
        subst hb1 hv1
        clear e h1 hy
        go_wp2
        go_ret2
        exact ⟨rfl, BL2.out⟩
      · have TE : (y.toList == s.toList) = false := by rw [str_eq, ← hy, ← HS.out]; exact decide_eq_false (fun q => e (bs_inj q))
        have hnext : Hid (∀ k, k < i + 1 → letters k ≠ x) := fun k hk => by
          by_cases e1 : k = i
          · subst e1; exact e
          · exact NO.out k (by omega)
        clear e hy
        go_wp2
        go_roundw
        case rel => exact ⟨i + 1, by omega, by go_num, BL2, hnext⟩
        case measure => simp [intOf]; omega
    · obtain rfl : i = 32 := by omega
      have h1 := skN_none NO.out
      have hb1 : b = false := by rw [← HB.out, h1]; rfl
      have hv1 : v = 0 := by rw [← HV.out, h1]; rfl
      subst hb1 hv1
      clear h1
      go_wp2
      go_ret2
      exact ⟨rfl, BL.out⟩
end Go.Proofs.YthdjpmiohfaphaaGreatDoor.reg
