/- The walks of the reference of layer 5: Find, Can. They compute what the plain facts say. No condition. -/
import Derived.Test.YthdjpmiohfaphaaGreatDoorRgC
namespace Go.Proofs.YthdjpmiohfaphaaGreatDoor.reg
open Go.RowKit lex aggs kit net

set_option maxRecDepth 100000 in
set_option maxHeartbeats 4000000 in
theorem rfind_is (a : Option Addr) (N c : Nat) (ps : List Pn) (s : ByteArray) (r : Int) (w : World) (h : RegIn w a N c ps) (hr : fndP ps s = r) :
    Calls Tryz.prog 16 #[.agg #[.slice a N c], .string s] w fun e w' => e = .returned (.int .i64 r) ∧ Below w.heap.size w w' := by
  have bx := Lib.hid (below_box w (.cells #[.slice a N c] 25))
  have NT := Lib.hid (OneAt.new w (.slice a N c) 25)
  have HN := Lib.hid (fun wr (bel : Below w.heap.size w wr) => h.below bel)
  have n1 := h.ncap
  have n2 := h.nmax
  unfold maxLen at n2
  have hn := Lib.hid h.len
  obtain ⟨E, hE⟩ : ∃ E, chkP ps = E := ⟨_, rfl⟩
  have CK := Lib.hid (rcheck_is a N c ps E _ (h.below bx.out) hE)
  unfold fndP at hr
  rw [hE] at hr
  clear h
  by_cases e0 : E = 0
  · subst e0
    rw [if_pos rfl] at hr
    have HR := Lib.hid hr
    clear hr hE
    go_enter Tryz.func16, Tryz.ntmps16
    go_wp2_with fail
    refine CK.out.mono ?_; rintro e w2 ⟨rfl, b2⟩
    have BL2 := Lib.hid (bx.out.trans (b2.mono bx.out.size))
    have NT2 := Lib.hid (NT.out.below b2 NT.out.2)
    clear b2
    go_wp2_with fail
    go_loopw [5] (fun i wr => ∃ j : Nat, j ≤ N ∧ i = .int .i64 j ∧ Hid (w2 = wr) ∧ Hid (∀ k (hk : k < (nmsP ps).length), k < j → (nmsP ps)[k] ≠ s)) (fun i _ => N - (intOf i).toNat)
    case atStart => exact ⟨0, Nat.zero_le _, rfl, rfl, fun k _ hk => by cases hk⟩
    case round => as_aux_lemma =>
      obtain ⟨j, hj, rfl, hw, hno⟩ := hrel
      obtain rfl := hw.out
      obtain ⟨k1, k2⟩ := NT2.out
      by_cases hjn : j < N
      · have hjx : j < ps.length := by rw [hn.out]; exact hjn
        have hjm : j < (nmsP ps).length := by simpa [nmsP] using hjx
        obtain ⟨g, o, hae, hg, hc⟩ := (HN.out _ BL2.out).rin.some (by omega)
        subst hae
        have c0 := (cells_pn hc j hjx).1
        obtain ⟨y, hy⟩ : ∃ y, (ps[j]).nm = y := ⟨_, rfl⟩
        rw [hy] at c0
        have hyn : (nmsP ps)[j] = y := by simpa [nmsP] using hy
        have HY := Lib.hid hyn
        clear hc hy hyn
        by_cases e : y = s
        · have TE : (y.toList == s.toList) = true := by rw [str_eq]; exact decide_eq_true e
          have hrj : r = j := by rw [← HR.out]; exact fnd_hit hjm (HY.out.trans e) (fun i hi hij => hno.out i hi hij)
          subst hrj
          clear e
          go_wp2
          go_ret
          exact ⟨rfl, BL2.out⟩
        · have TE : (y.toList == s.toList) = false := by rw [str_eq]; exact decide_eq_false e
          have hnext : Hid (∀ k (hk : k < (nmsP ps).length), k < j + 1 → (nmsP ps)[k] ≠ s) := fun k hk hkj => by
            by_cases e1 : k = j
            · subst e1; rw [HY.out]; exact e
            · exact hno.out k hk (by omega)
          clear e hno
          go_wp2
          go_roundw
          case rel => exact ⟨j + 1, by omega, by go_num, trivial, hnext⟩
          case measure => simp [intOf]; omega
      · obtain rfl : j = N := by omega
        have hr1 : r = -1 := by rw [← HR.out]; exact fnd_none (fun k hk => hno.out k hk (by simp [nmsP] at hk; have := hn.out; omega))
        subst hr1
        go_wp2
        go_ret
        exact ⟨rfl, BL2.out⟩
  · rw [if_neg e0] at hr
    subst hr
    have TE : (E == 0) = false := beq_eq_false_iff_ne.2 e0
    clear e0 hE
    go_enter Tryz.func16, Tryz.ntmps16
    go_wp2_with fail
    refine CK.out.mono ?_; rintro e w2 ⟨rfl, b2⟩
    have BL2 := Lib.hid (bx.out.trans (b2.mono bx.out.size))
    clear b2
    go_wp2
    go_ret
    exact ⟨rfl, BL2.out⟩
theorem hasB_bits (sk k : Int) : hasB sk k = decide (bits BinOp.and IntKind.i64 sk k = k) := rfl
theorem fndP_lt (ps : List Pn) (s : ByteArray) : -1 ≤ fndP ps s ∧ fndP ps s < ps.length := by
  unfold fndP
  by_cases h : chkP ps = 0
  · rw [if_pos h]
    have := fnd_ge (nmsP ps) s
    rw [show (nmsP ps).length = ps.length from by simp [nmsP]] at this
    exact this
  · rw [if_neg h]; omega
set_option maxRecDepth 100000 in
set_option maxHeartbeats 4000000 in
theorem rcan_is (a : Option Addr) (N c : Nat) (ps : List Pn) (s : ByteArray) (k t : Int) (r : Bool) (w : World) (h : RegIn w a N c ps) (hr : canP ps s k t = r) :
    Calls Tryz.prog 18 #[.agg #[.slice a N c], .string s, .int .i64 k, .int .i64 t] w fun e w' => e = .returned (.bool r) ∧ Below w.heap.size w w' := by
  have bx := Lib.hid (below_box w (.cells #[.slice a N c] 25))
  have NT := Lib.hid (OneAt.new w (.slice a N c) 25)
  have HN := Lib.hid (fun wr (bel : Below w.heap.size w wr) => h.below bel)
  have n1 := h.ncap
  have n2 := h.nmax
  unfold maxLen at n2
  have hn := Lib.hid h.len
  obtain ⟨E, hE⟩ : ∃ E, fndP ps s = E := ⟨_, rfl⟩
  have hE2 := fndP_lt ps s
  rw [hE, h.len] at hE2
  have FD := Lib.hid (rfind_is a N c ps s E _ (h.below bx.out) hE)
  unfold canP at hr
  rw [hE] at hr
  clear h hE
  by_cases e0 : 0 ≤ E
  · obtain ⟨j, rfl⟩ : ∃ j : Nat, E = j := ⟨E.toNat, by omega⟩
    have T1 : decide ((j : Int) < 0) = false := decide_eq_false (by omega)
    by_cases k0 : 1 ≤ k
    · have T2 : decide (k < 1) = false := decide_eq_false (by omega)
      by_cases k1 : k ≤ 31
      · have T3 : decide (31 < k) = false := decide_eq_false (by omega)
        have hjx : j < ps.length := by rw [hn.out]; omega
        rw [decide_eq_true e0, decide_eq_true (And.intro k0 k1), Bool.and_true, Bool.true_and, Int.toNat_natCast, List.getD_eq_getElem?_getD, List.getElem?_eq_getElem hjx, Option.getD_some] at hr
        have hjn : (j : Int) < (N : Int) := by omega
        have HR := Lib.hid hr
        clear hr e0 k0 k1
        go_enter Tryz.func18, Tryz.ntmps18
        go_wp2_with fail
        refine FD.out.mono ?_; rintro e w2 ⟨rfl, b2⟩
        have BL2 := Lib.hid (bx.out.trans (b2.mono bx.out.size))
        obtain ⟨x1, -⟩ := NT.out.below b2 NT.out.2
        obtain ⟨g, o, hae, hg, hc⟩ := (HN.out _ BL2.out).rin.some (by omega)
        subst hae
        obtain ⟨c0, c1, c2, c3, c4⟩ := cells_pn hc j hjx
        obtain ⟨x, hx⟩ : ∃ x, ps[j] = x := ⟨_, rfl⟩
        rw [hx] at c0 c1 c2 c3 c4
        have HR2 : Hid ((hasB x.sk k && decide (x.fr ≤ t ∧ t < x.un)) = r) := by rw [← hx]; exact HR.out
        obtain ⟨nm, co, sk, fr, un⟩ := x
        dsimp only at c0 c1 c2 c3 c4
        have PA := PnAt.new w2 ⟨nm, co, sk, fr, un⟩ 27
        have B3 := Lib.hid (BL2.out.trans ((below_box w2 (.cells #[.string nm, .int .i64 co, .int .i64 sk, .int .i64 fr, .int .i64 un] 27)).mono BL2.out.size))
        obtain ⟨d0, d1, d2, d3, d4, -⟩ := PA
        dsimp only at d0 d1 d2 d3 d4
        clear b2 hc hx
        by_cases b1 : bits BinOp.and IntKind.i64 sk k = k
        · have TB : (bits BinOp.and IntKind.i64 sk k == k) = true := beq_iff_eq.2 b1
          have hB : hasB sk k = true := by rw [hasB_bits]; exact decide_eq_true b1
          rw [hB, Bool.true_and] at HR2
          clear b1 hB
          by_cases f0 : fr ≤ t
          · have T4 : decide (fr ≤ t) = true := decide_eq_true f0
            by_cases u0 : t < un
            · have T5 : decide (t < un) = true := decide_eq_true u0
              have hr1 : r = true := by rw [← HR2.out]; exact decide_eq_true ⟨f0, u0⟩
              subst hr1
              clear f0 u0
              go_wp2
              go_ret
              exact ⟨rfl, B3.out⟩
            · have T5 : decide (t < un) = false := decide_eq_false u0
              have hr1 : r = false := by rw [← HR2.out]; exact decide_eq_false (fun h => u0 h.2)
              subst hr1
              clear f0 u0
              go_wp2
              go_ret
              exact ⟨rfl, B3.out⟩
          · have T4 : decide (fr ≤ t) = false := decide_eq_false f0
            have hr1 : r = false := by rw [← HR2.out]; exact decide_eq_false (fun h => f0 h.1)
            subst hr1
            clear f0
            go_wp2
            go_ret
            exact ⟨rfl, B3.out⟩
        · have TB : (bits BinOp.and IntKind.i64 sk k == k) = false := beq_eq_false_iff_ne.2 b1
          have hB : hasB sk k = false := by rw [hasB_bits]; exact decide_eq_false b1
          rw [hB, Bool.false_and] at HR2
          obtain rfl := HR2.out
          clear b1 hB
          go_wp2
          go_ret
          exact ⟨rfl, B3.out⟩
      · have T3 : decide (31 < k) = true := decide_eq_true (by omega)
        rw [decide_eq_false (show ¬ (1 ≤ k ∧ k ≤ 31) from fun h => k1 h.2), Bool.and_false, Bool.false_and, Bool.false_and] at hr
        subst hr
        clear e0 k0 k1
        go_enter Tryz.func18, Tryz.ntmps18
        go_wp2_with fail
        refine FD.out.mono ?_; rintro e w2 ⟨rfl, b2⟩
        have BL2 := Lib.hid (bx.out.trans (b2.mono bx.out.size))
        clear b2
        go_wp2
        go_ret
        exact ⟨rfl, BL2.out⟩
    · have T2 : decide (k < 1) = true := decide_eq_true (by omega)
      rw [decide_eq_false (show ¬ (1 ≤ k ∧ k ≤ 31) from fun h => k0 h.1), Bool.and_false, Bool.false_and, Bool.false_and] at hr
      subst hr
      clear e0 k0
      go_enter Tryz.func18, Tryz.ntmps18
      go_wp2_with fail
      refine FD.out.mono ?_; rintro e w2 ⟨rfl, b2⟩
      have BL2 := Lib.hid (bx.out.trans (b2.mono bx.out.size))
      clear b2
      go_wp2
      go_ret
      exact ⟨rfl, BL2.out⟩
  · have T1 : decide (E < 0) = true := decide_eq_true (by omega)
    rw [decide_eq_false e0, Bool.false_and, Bool.false_and, Bool.false_and] at hr
    subst hr
    clear e0
    go_enter Tryz.func18, Tryz.ntmps18
    go_wp2_with fail
    refine FD.out.mono ?_; rintro e w2 ⟨rfl, b2⟩
    have BL2 := Lib.hid (bx.out.trans (b2.mono bx.out.size))
    clear b2
    go_wp2
    go_ret
    exact ⟨rfl, BL2.out⟩
end Go.Proofs.YthdjpmiohfaphaaGreatDoor.reg
