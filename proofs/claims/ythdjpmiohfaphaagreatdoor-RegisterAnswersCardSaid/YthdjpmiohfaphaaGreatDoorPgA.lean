/- The walks of layer 5's program: skills, a span, a person's first error. They compute what the plain facts say. No condition but that skills are a number of 64 bits. -/
import Derived.Test.YthdjpmiohfaphaaGreatDoorRgD
import Derived.BigGuardPart
namespace Go.Proofs.YthdjpmiohfaphaaGreatDoor.reg
open Go.RowKit lex aggs kit net

/-- a number of 64 bits -/
def I64 (x : Int) : Prop := -9223372036854775808 ≤ x ∧ x ≤ 9223372036854775807
theorem nat_mask (n : Nat) (h : n < 18446744073709551616) : n &&& 18446744073709551584 = n / 32 * 32 := by
  have e : (n / 32 * 32) = (n >>> 5) <<< 5 := by rw [Nat.shiftLeft_eq, Nat.shiftRight_eq_div_pow]
  rw [e]
  apply Nat.eq_of_testBit_eq
  intro i
  rw [Nat.testBit_and, Nat.testBit_shiftLeft, Nat.testBit_shiftRight]
  have hm : (18446744073709551584 : Nat) = (576460752303423487) <<< 5 := by decide
  rw [hm, Nat.testBit_shiftLeft]
  have hq : (576460752303423487 : Nat) = 2 ^ 59 - 1 := by decide
  rw [hq, Nat.testBit_two_pow_sub_one]
  by_cases h5 : 5 ≤ i
  · by_cases h6 : i - 5 < 59
    · simp [h5, h6, show 5 + (i - 5) = i by omega]
    · have : n.testBit i = false := Nat.testBit_lt_two_pow (Nat.lt_of_lt_of_le h (by
        calc 18446744073709551616 = 2 ^ 64 := by decide
          _ ≤ 2 ^ i := Nat.pow_le_pow_right (by decide) (by omega)))
      simp [h5, this, show 5 + (i - 5) = i by omega]
  · simp [h5]
theorem bits_skills (sk : Int) (h : I64 sk) : (bits BinOp.andNot IntKind.i64 sk 31 == 0) = decide (0 ≤ sk ∧ sk ≤ 31) := by
  have e : bits BinOp.andNot IntKind.i64 sk 31 = IntKind.i64.wrap ((BitVec.ofInt 64 sk &&& ~~~BitVec.ofInt 64 ((31 : Nat) : Int)).toNat : Int) := rfl
  have e2 : (BitVec.ofInt 64 sk &&& ~~~BitVec.ofInt 64 ((31 : Nat) : Int)).toNat = (sk % 18446744073709551616).toNat / 32 * 32 := by
    rw [BitVec.toNat_and, BitVec.toNat_not, Go.ofInt_u64 31 (by omega), show 2 ^ 64 - 1 - 31 = 18446744073709551584 by decide, BitVec.toNat_ofInt, show ((2 ^ 64 : Nat) : Int) = 18446744073709551616 by decide, nat_mask _ (by omega)]
  rw [e, e2, IntKind.wrap_i64]
  obtain ⟨h0, h1⟩ := h
  rw [Bool.eq_iff_iff, beq_iff_eq, decide_eq_true_eq]
  omega
theorem skills_is (sk : Int) (b : Bool) (hs : I64 sk) (hb : decide (0 ≤ sk ∧ sk ≤ 31) = b) (w : World) :
    Calls Tryz.prog 45 #[.int .i64 sk] w fun e w' => e = .returned (.bool b) ∧ w = w' := by
  have TB : (bits BinOp.andNot IntKind.i64 sk 31 == 0) = b := by rw [bits_skills sk hs, hb]
  clear hs hb
  go_enter Tryz.func45, Tryz.ntmps45
  go_wp2
  go_ret
  exact ⟨rfl, rfl⟩
set_option maxRecDepth 100000 in
theorem valid_is (f u : Int) (b : Bool) (hb : decide (0 ≤ f ∧ f < u ∧ u ≤ 16777216) = b) (w : World) :
    Calls Tryz.prog 46 #[.agg #[.int .i64 f, .int .i64 u]] w fun e w' => e = .returned (.bool b) ∧ Below w.heap.size w w' := by
  have bx := Lib.hid (below_box w (.cells #[.int .i64 f, .int .i64 u] 77))
  subst hb
  by_cases h0 : 0 ≤ f
  · by_cases h1 : f < u
    · by_cases h2 : u ≤ 16777216
      · have e : decide (0 ≤ f ∧ f < u ∧ u ≤ 16777216) = true := decide_eq_true ⟨h0, h1, h2⟩
        rw [e]; clear e
        (go_enter Tryz.func46, Tryz.ntmps46; go_wp2; go_ret; exact ⟨rfl, bx.out⟩)
      · have e : decide (0 ≤ f ∧ f < u ∧ u ≤ 16777216) = false := decide_eq_false (fun h => h2 h.2.2)
        rw [e]; clear e
        (go_enter Tryz.func46, Tryz.ntmps46; go_wp2; go_ret; exact ⟨rfl, bx.out⟩)
    · have e : decide (0 ≤ f ∧ f < u ∧ u ≤ 16777216) = false := decide_eq_false (fun h => h1 h.2.1)
      rw [e]; clear e
      (go_enter Tryz.func46, Tryz.ntmps46; go_wp2; go_ret; exact ⟨rfl, bx.out⟩)
  · have e : decide (0 ≤ f ∧ f < u ∧ u ≤ 16777216) = false := decide_eq_false (fun h => h0 h.1)
    rw [e]; clear e
    (go_enter Tryz.func46, Tryz.ntmps46; go_wp2; go_ret; exact ⟨rfl, bx.out⟩)
set_option maxRecDepth 100000 in
theorem checkPerson_is (p : Pn) (r : Int) (w : World) (hc : HasClasses w) (hs : p.nm.size ≤ maxLen) (hk : I64 p.sk) (hr : pnE p = r) :
    Calls Tryz.prog 28 #[pnV p] w fun e w' => e = .returned (.int .i64 r) ∧ Below w.heap.size w w' := by
  have bx := Lib.hid (below_box w (.cells #[.string p.nm, .int .i64 p.co, .int .i64 p.sk, .int .i64 p.fr, .int .i64 p.un] 27))
  have NM := Lib.hid (fun b hb => name_at p.nm b _ (hc.below bx.out) hs hb)
  have VA := Lib.hid (fun b hb W => valid_is p.fr p.un b hb W)
  have SK := Lib.hid (fun b hb W => skills_is p.sk b hk hb W)
  obtain ⟨nm, co, sk, fr, un⟩ := p
  unfold pnE at hr
  unfold pnV
  dsimp only at hr NM VA SK bx ⊢
  clear hk hc hs
  cases hb : nameB nm.data.toList with
  | false =>
    rw [if_pos hb] at hr
    subst hr
    have HB := Lib.hid hb
    clear hb
    go_enter Tryz.func28, Tryz.ntmps28
    go_wp2_with fail
    refine (NM.out _ HB.out).mono ?_; rintro e w' ⟨rfl, rfl⟩
    go_wp2
    go_ret
    exact ⟨rfl, bx.out⟩
  | true =>
    have HB := Lib.hid hb
    rw [if_neg (by rw [hb]; simp)] at hr
    clear hb
    by_cases c0 : 0 ≤ co
    · have T1 : decide (co < 0) = false := decide_eq_false (by omega)
      by_cases c1 : co ≤ 7
      · have T2 : decide (7 < co) = false := decide_eq_false (by omega)
        by_cases s0 : 0 ≤ sk ∧ sk ≤ 31
        · have HS := Lib.hid (decide_eq_true s0)
          rw [if_neg (fun h => h ⟨⟨c0, c1⟩, s0⟩)] at hr
          clear c0 c1 s0
          by_cases h2 : 0 ≤ fr ∧ fr < un ∧ un ≤ 16777216
          · rw [if_neg (fun h => h h2)] at hr
            subst hr
            have HV := Lib.hid (decide_eq_true h2)
            clear h2
            go_enter Tryz.func28, Tryz.ntmps28
            go_wp2_with fail
            refine (NM.out _ HB.out).mono ?_; rintro e w' ⟨rfl, rfl⟩
            go_wp2_with fail
            refine (SK.out _ HS.out _).mono ?_; rintro e w' ⟨rfl, rfl⟩
            go_wp2_with fail
            refine (VA.out _ HV.out _).mono ?_; rintro e w2 ⟨rfl, b2⟩
            have B2 := Lib.hid (bx.out.trans (b2.mono bx.out.size))
            clear b2
            go_wp2
            go_ret
            exact ⟨rfl, B2.out⟩
          · rw [if_pos h2] at hr
            subst hr
            have HV := Lib.hid (decide_eq_false h2)
            clear h2
            go_enter Tryz.func28, Tryz.ntmps28
            go_wp2_with fail
            refine (NM.out _ HB.out).mono ?_; rintro e w' ⟨rfl, rfl⟩
            go_wp2_with fail
            refine (SK.out _ HS.out _).mono ?_; rintro e w' ⟨rfl, rfl⟩
            go_wp2_with fail
            refine (VA.out _ HV.out _).mono ?_; rintro e w2 ⟨rfl, b2⟩
            have B2 := Lib.hid (bx.out.trans (b2.mono bx.out.size))
            clear b2
            go_wp2
            go_ret
            exact ⟨rfl, B2.out⟩
        · have HS := Lib.hid (decide_eq_false s0)
          rw [if_pos (fun h => s0 h.2)] at hr
          subst hr
          clear c0 c1 s0
          go_enter Tryz.func28, Tryz.ntmps28
          go_wp2_with fail
          refine (NM.out _ HB.out).mono ?_; rintro e w' ⟨rfl, rfl⟩
          go_wp2_with fail
          refine (SK.out _ HS.out _).mono ?_; rintro e w' ⟨rfl, rfl⟩
          go_wp2
          go_ret
          exact ⟨rfl, bx.out⟩
      · have T2 : decide (7 < co) = true := decide_eq_true (by omega)
        rw [if_pos (fun h => c1 h.1.2)] at hr
        subst hr
        clear c0 c1
        go_enter Tryz.func28, Tryz.ntmps28
        go_wp2_with fail
        refine (NM.out _ HB.out).mono ?_; rintro e w' ⟨rfl, rfl⟩
        go_wp2
        go_ret
        exact ⟨rfl, bx.out⟩
    · have T1 : decide (co < 0) = true := decide_eq_true (by omega)
      rw [if_pos (fun h => c0 h.1.1)] at hr
      subst hr
      clear c0
      go_enter Tryz.func28, Tryz.ntmps28
      go_wp2_with fail
      refine (NM.out _ HB.out).mono ?_; rintro e w' ⟨rfl, rfl⟩
      go_wp2
      go_ret
      exact ⟨rfl, bx.out⟩
end Go.Proofs.YthdjpmiohfaphaaGreatDoor.reg
