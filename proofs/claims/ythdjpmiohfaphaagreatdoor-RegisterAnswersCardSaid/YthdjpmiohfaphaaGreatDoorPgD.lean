/- The walks of layer 5's program: Find, Can. They compute what the plain facts say. Condition: skills are numbers of 64 bits. -/
import Derived.Test.YthdjpmiohfaphaaGreatDoorPgC
namespace Go.Proofs.YthdjpmiohfaphaaGreatDoor.reg
open Go.RowKit lex aggs kit net

set_option maxRecDepth 100000 in
set_option maxHeartbeats 4000000 in
theorem find_is (a : Option Addr) (N c : Nat) (ps : List Pn) (s : ByteArray) (r : Int) (w : World) (h : RegIn w a N c ps) (hcl : HasClasses w) (hw : SkI ps) (hr : fndP ps s = r) :
    Calls Tryz.prog 15 #[.agg #[.slice a N c], .string s] w fun e w' => e = .returned (.int .i64 r) ∧ Below w.heap.size w w' := by
  have bx := Lib.hid (below_box w (.cells #[.slice a N c] 25))
  have NT := Lib.hid (OneAt.new w (.slice a N c) 25)
  have HN := Lib.hid (fun wr (bel : Below w.heap.size w wr) => h.below bel)
  obtain ⟨E, hE⟩ : ∃ E, chkP ps = E := ⟨_, rfl⟩
  have CK := Lib.hid (check_is a N c ps E _ (h.below bx.out) (hcl.below bx.out) hw hE)
  unfold fndP at hr
  rw [hE] at hr
  obtain ⟨k1, k2⟩ := NT.out
  have hn := h.len
  clear h hcl hw
  by_cases e0 : E = 0
  · subst e0
    rw [if_pos rfl] at hr
    have hOk := chkP_zero.1 hE
    have h64 : N ≤ 64 := by rw [← hn]; exact hOk.len
    obtain ⟨P, hP⟩ : ∃ P, pos ps s = P := ⟨_, rfl⟩
    obtain ⟨b, hb⟩ : ∃ b, decide (fnd (nmsP ps) s ≠ -1) = b := ⟨_, rfl⟩
    have PL := Lib.hid (fun W (bel : Below w.heap.size w W) => placeOf_is a N c ps s P b W (HN.out W bel) h64 hOk.up hP hb)
    have hcase : (b = true ∧ r = P) ∨ (b = false ∧ r = -1) := by
      by_cases h1 : ∃ h1 : pos ps s < ps.length, ps[pos ps s].nm = s
      · obtain ⟨h1, h2⟩ := h1
        have := fnd_pos hOk.up s h1 h2
        rw [this] at hb hr
        exact .inl ⟨by rw [← hb]; exact decide_eq_true (by omega), by rw [← hr, hP]⟩
      · have := fnd_not hOk.up s (fun q e => h1 ⟨q, e⟩)
        rw [this] at hb hr
        exact .inr ⟨by rw [← hb]; rfl, hr.symm⟩
    clear hr hE hP hb hOk hn h64
    rcases hcase with ⟨rfl, rfl⟩ | ⟨rfl, rfl⟩
    all_goals
      go_enter Tryz.func15, Tryz.ntmps15
      go_wp2_with fail
      refine CK.out.mono ?_; rintro e w2 ⟨rfl, b2⟩
      have BL2 := Lib.hid (bx.out.trans (b2.mono bx.out.size))
      obtain ⟨k1, k2⟩ := NT.out.below b2 NT.out.2
      clear b2
      go_wp2_with fail
      refine (PL.out _ BL2.out).mono ?_; rintro e w3 ⟨rfl, b3⟩
      have BL3 := Lib.hid (BL2.out.trans (b3.mono BL2.out.size))
      clear b3
      go_wp2
      go_ret
      exact ⟨rfl, BL3.out⟩
  · rw [if_neg e0] at hr
    subst hr
    have TE : (E == 0) = false := beq_eq_false_iff_ne.2 e0
    clear e0 hE hn
    go_enter Tryz.func15, Tryz.ntmps15
    go_wp2_with fail
    refine CK.out.mono ?_; rintro e w2 ⟨rfl, b2⟩
    have BL2 := Lib.hid (bx.out.trans (b2.mono bx.out.size))
    clear b2
    go_wp2
    go_ret
    exact ⟨rfl, BL2.out⟩
theorem hasB_range {sk k : Int} (h0 : 0 ≤ sk) (h1 : sk ≤ 31) (h : hasB sk k = true) : 0 ≤ k ∧ k ≤ 31 := by
  unfold hasB at h
  rw [decide_eq_true_eq, IntKind.wrap_i64, BitVec.toNat_and] at h
  have h2 : (BitVec.ofInt 64 sk).toNat &&& (BitVec.ofInt 64 k).toNat ≤ (BitVec.ofInt 64 sk).toNat := Nat.and_le_left
  have h3 : (BitVec.ofInt 64 sk).toNat ≤ 31 := by
    rw [BitVec.toNat_ofInt]
    omega
  omega
theorem can_no {ps : List Pn} {s : ByteArray} {t : Int} : canP ps s 0 t = false := by
  unfold canP
  rw [decide_eq_false (show ¬ (1 ≤ (0 : Int) ∧ (0 : Int) ≤ 31) by omega), Bool.and_false, Bool.false_and, Bool.false_and]
theorem can_none {ps : List Pn} {s : ByteArray} {k t : Int} (h : fndP ps s = -1) : canP ps s k t = false := by
  unfold canP
  rw [h, decide_eq_false (show ¬ (0 ≤ (-1 : Int)) by omega), Bool.false_and, Bool.false_and, Bool.false_and]
/-- bits that are no skills need no test -/
theorem can_at {ps : List Pn} {s : ByteArray} {k t : Int} {j : Nat} (hf : fndP ps s = j) (hj : j < ps.length) (hk : k ≠ 0) : canP ps s k t = (hasB ps[j].sk k && decide (ps[j].fr ≤ t ∧ t < ps[j].un)) := by
  have hOk : Ok ps := by
    by_cases h : chkP ps = 0
    · exact chkP_zero.1 h
    · unfold fndP at hf; rw [if_neg h] at hf; omega
  obtain ⟨-, ⟨-, s0, s1⟩, -⟩ := pnE_zero.1 (hOk.all _ (List.getElem_mem hj))
  unfold canP
  rw [hf, decide_eq_true (show (0 : Int) ≤ (j : Int) by omega), Int.toNat_natCast, List.getD_eq_getElem?_getD, List.getElem?_eq_getElem hj, Option.getD_some, Bool.true_and]
  cases hB : hasB ps[j].sk k with
  | false => simp
  | true =>
    obtain ⟨q0, q1⟩ := hasB_range s0 s1 hB
    rw [decide_eq_true (show 1 ≤ k ∧ k ≤ 31 by omega)]
    rfl
set_option maxRecDepth 100000 in
set_option maxHeartbeats 4000000 in
theorem can_is (a : Option Addr) (N c : Nat) (ps : List Pn) (s : ByteArray) (k t : Int) (r : Bool) (w : World) (h : RegIn w a N c ps) (hcl : HasClasses w) (hw : SkI ps) (hr : canP ps s k t = r) :
    Calls Tryz.prog 17 #[.agg #[.slice a N c], .string s, .int .i64 k, .int .i64 t] w fun e w' => e = .returned (.bool r) ∧ Below w.heap.size w w' := by
  have bx := Lib.hid (below_box w (.cells #[.slice a N c] 25))
  have NT := Lib.hid (OneAt.new w (.slice a N c) 25)
  have HN := Lib.hid (fun wr (bel : Below w.heap.size w wr) => h.below bel)
  have n1 := h.ncap
  have n2 := h.nmax
  unfold maxLen at n2
  have hn := Lib.hid h.len
  obtain ⟨E, hE⟩ : ∃ E, fndP ps s = E := ⟨_, rfl⟩
  have hE2 := fndP_lt ps s
  rw [hE, h.len] at hE2
  have FD := Lib.hid (find_is a N c ps s E _ (h.below bx.out) (hcl.below bx.out) hw hE)
  obtain ⟨k1, k2⟩ := NT.out
  clear h hcl hw
  by_cases e0 : E = -1
  · subst e0
    rw [can_none hE] at hr
    subst hr
    clear hE hE2
    go_enter Tryz.func17, Tryz.ntmps17
    go_wp2_with fail
    refine FD.out.mono ?_; rintro e w2 ⟨rfl, b2⟩
    have BL2 := Lib.hid (bx.out.trans (b2.mono bx.out.size))
    clear b2
    go_wp2
    go_ret
    exact ⟨rfl, BL2.out⟩
  · obtain ⟨j, rfl⟩ : ∃ j : Nat, E = j := ⟨E.toNat, by omega⟩
    have T1 : ((j : Int) == -1) = false := beq_eq_false_iff_ne.2 e0
    by_cases k0 : k = 0
    · subst k0
      rw [can_no] at hr
      subst hr
      clear hE hE2 e0
      go_enter Tryz.func17, Tryz.ntmps17
      go_wp2_with fail
      refine FD.out.mono ?_; rintro e w2 ⟨rfl, b2⟩
      have BL2 := Lib.hid (bx.out.trans (b2.mono bx.out.size))
      clear b2
      go_wp2
      go_ret
      exact ⟨rfl, BL2.out⟩
    · have T2 : (k == 0) = false := beq_eq_false_iff_ne.2 k0
      have hjx : j < ps.length := by rw [hn.out]; omega
      rw [can_at hE hjx k0] at hr
      have hjn : (j : Int) < (N : Int) := by omega
      have HR := Lib.hid hr
      clear hr e0 k0 hE
      go_enter Tryz.func17, Tryz.ntmps17
      go_wp2_with fail
      refine FD.out.mono ?_; rintro e w2 ⟨rfl, b2⟩
      have BL2 := Lib.hid (bx.out.trans (b2.mono bx.out.size))
      obtain ⟨x1, -⟩ := NT.out.below b2 NT.out.2
      obtain ⟨g, o, hae, hg, hc⟩ := (HN.out _ BL2.out).rin.some (by omega)
      subst hae
      obtain ⟨c0, c1, c2, c3, c4⟩ := cells_pn hc j hjx
      obtain ⟨x, hx⟩ : ∃ x, ps[j] = x := ⟨_, rfl⟩
      rw [hx] at c0 c1 c2 c3 c4
      have HR2 : Hid ((hasB x.sk k && decide (x.fr ≤ t ∧ t < x.un)) = r) := by rw [← hx]; exact HR.out
      obtain ⟨nm, co, sk, fr, un⟩ := x
      dsimp only at c0 c1 c2 c3 c4
      have PA := PnAt.new w2 ⟨nm, co, sk, fr, un⟩ 27
      have B3 := Lib.hid (BL2.out.trans ((below_box w2 (.cells #[.string nm, .int .i64 co, .int .i64 sk, .int .i64 fr, .int .i64 un] 27)).mono BL2.out.size))
      obtain ⟨d0, d1, d2, d3, d4, -⟩ := PA
      dsimp only at d0 d1 d2 d3 d4
      clear b2 hc hx
      by_cases b1 : bits BinOp.and IntKind.i64 sk k = k
      · have TB : (bits BinOp.and IntKind.i64 sk k == k) = true := beq_iff_eq.2 b1
        have hB : hasB sk k = true := by rw [hasB_bits]; exact decide_eq_true b1
        rw [hB, Bool.true_and] at HR2
        clear b1 hB
        by_cases f0 : fr ≤ t
        · have T4 : decide (fr ≤ t) = true := decide_eq_true f0
          by_cases u0 : t < un
          · have T5 : decide (t < un) = true := decide_eq_true u0
            have hr1 : r = true := by rw [← HR2.out]; exact decide_eq_true ⟨f0, u0⟩
            subst hr1
            clear f0 u0
            go_wp2
            go_ret
            exact ⟨rfl, B3.out⟩
          · have T5 : decide (t < un) = false := decide_eq_false u0
            have hr1 : r = false := by rw [← HR2.out]; exact decide_eq_false (fun h => u0 h.2)
            subst hr1
            clear f0 u0
            go_wp2
            go_ret
            exact ⟨rfl, B3.out⟩
        · have T4 : decide (fr ≤ t) = false := decide_eq_false f0
          have hr1 : r = false := by rw [← HR2.out]; exact decide_eq_false (fun h => f0 h.1)
          subst hr1
          clear f0
          go_wp2
          go_ret
          exact ⟨rfl, B3.out⟩
      · have TB : (bits BinOp.and IntKind.i64 sk k == k) = false := beq_eq_false_iff_ne.2 b1
        have hB : hasB sk k = false := by rw [hasB_bits]; exact decide_eq_false b1
        rw [hB, Bool.false_and] at HR2
        obtain rfl := HR2.out
        clear b1 hB
        go_wp2
        go_ret
        exact ⟨rfl, B3.out⟩
end Go.Proofs.YthdjpmiohfaphaaGreatDoor.reg
