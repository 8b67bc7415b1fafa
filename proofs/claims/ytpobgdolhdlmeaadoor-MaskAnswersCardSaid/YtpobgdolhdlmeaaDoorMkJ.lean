/- The walks of layer 6: the comparison of two lists of ints; the example of the chapter. Condition: the table 'flags' holds what its text lays. -/
import Derived.Test.YtpobgdolhdlmeaaDoorMkI
import Derived.Test.YtpobgdolhdlmeaaDoorMkE
namespace Go.Proofs.YtpobgdolhdlmeaaDoor.msk
open Go.RowKit lex aggs kit net deck

set_option maxRecDepth 100000 in
set_option maxHeartbeats 4000000 in
theorem ints_is (a b : Option Addr) (N c M d : Nat) (xs ys : List Int) (r : Bool) (w : World) (h : LIn w a N c xs) (k : LIn w b M d ys) (hr : decide (xs = ys) = r) :
    Calls Tryd.prog 23 #[.slice a N c, .slice b M d] w fun e w' => e = .returned (.bool r) ∧ ∃ n, w' = w.drewN n := by
  subst hr
  have hn := Lib.hid h.len
  have hm := Lib.hid k.len
  have HL := Lib.hid h
  have KL := Lib.hid k
  have n2 := h.cap
  have n3 := h.max
  have m2 := k.cap
  have m3 := k.max
  unfold maxLen at n3 m3
  clear h k
  by_cases e : N = M
  · subst e
    have T1 : ((N : Int) != (N : Int)) = false := by simp
    go_enter Tryd.func23, Tryd.ntmps23
    go_wp2
    go_loopw [5] (fun i wr => ∃ k : Nat, k ≤ N ∧ i = .int .i64 k ∧ Hid (∀ j, j < k → at0 xs j = at0 ys j) ∧ Hid (∃ n, wr = w.drewN n)) (fun i _ => N - (intOf i).toNat)
    case atStart => exact ⟨0, Nat.zero_le _, rfl, fun j hj => absurd hj (Nat.not_lt_zero j), 0, rfl⟩
    case round =>
      obtain ⟨k, hk, rfl, hd, hdr⟩ := hrel
      obtain ⟨nn, rfl⟩ := hdr.out
      by_cases hlt : k < N
      · obtain ⟨g, o, rfl, -, hc⟩ := HL.out.rin.some (by rw [hn.out]; omega)
        obtain ⟨g2, o2, rfl, -, hc2⟩ := KL.out.rin.some (by rw [hm.out]; omega)
        have c0 := cells_i hc k (by rw [hn.out]; exact hlt)
        have c1 := cells_i hc2 k (by rw [hm.out]; exact hlt)
        obtain ⟨X, hX⟩ : ∃ x, at0 xs k = x := ⟨_, rfl⟩
        obtain ⟨Y, hY⟩ : ∃ x, at0 ys k = x := ⟨_, rfl⟩
        rw [hX] at c0
        rw [hY] at c1
        have HX := Lib.hid hX
        have HY := Lib.hid hY
        clear hX hY hc hc2
        by_cases exy : X = Y
        · have T2 : (X != Y) = false := by simp [exy]
          have Y2 : Hid (∀ j, j < k + 1 → at0 xs j = at0 ys j) := fun j hj => by
            by_cases e : j = k
            · subst e; rw [HX.out, HY.out]; exact exy
            · exact hd.out j (by omega)
          clear exy
          go_wp2
          go_quiet (fail)
          go_wp2
          go_roundw
          case rel => exact ⟨k + 1, by omega, by go_num, Y2, _, rfl⟩
          case measure => simp [intOf]; omega
        · have T2 : (X != Y) = true := bne_iff_ne.2 exy
          have N2 : Hid (decide (xs = ys) = false) := decide_eq_false (fun e => exy (by rw [← HX.out, ← HY.out, e]))
          clear exy
          go_wp2
          go_quiet (fail)
          go_wp2
          go_ret
          exact ⟨ret_bool N2.out.symm, _, World.drewN_drewN _ _ _⟩
      · obtain rfl : k = N := by omega
        have Y2 : Hid (decide (xs = ys) = true) := decide_eq_true (ext0 (by rw [hn.out, hm.out]) (fun i hi => hd.out i (by rw [hn.out] at hi; exact hi)))
        go_wp2
        go_ret
        exact ⟨ret_bool Y2.out.symm, nn, rfl⟩
  · have T1 : ((N : Int) != (M : Int)) = true := bne_iff_ne.2 (by omega)
    have N2 : Hid (decide (xs = ys) = false) := decide_eq_false (fun e2 => e (by rw [← hn.out, ← hm.out, e2]))
    go_enter Tryd.func23, Tryd.ntmps23
    go_wp2
    go_ret
    exact ⟨ret_bool N2.out.symm, 0, rfl⟩
theorem lin2 (w : World) (x y : Int) (T : Nat) (g : Nat) (hg : g = w.heap.size) : LIn (w.alloc (.cells #[.int .i64 x, .int .i64 y] T)) (some ⟨g, 0, none⟩) 2 2 [x, y] := by
  subst hg
  refine ⟨rfl, Nat.le_refl _, by decide, .inr ⟨_, 0, rfl, by simp, fun i u hu => ?_⟩, fun h => by cases h⟩
  have e : (w.alloc (.cells #[.int .i64 x, .int .i64 y] T)).heap[w.heap.size]? = some (.cells #[.int .i64 x, .int .i64 y] T (0, 0)) := heap_alloc_new w _
  rw [Nat.zero_add]
  simp only [World.cell?, e]
  simpa [flat, encI] using hu
theorem LIn.drewN {w : World} {a : Option Addr} {N c : Nat} {xs : List Int} (h : LIn w a N c xs) (n : Nat) : LIn (w.drewN n) a N c xs := h.below (below_drewN w n)
theorem ex_all : allL [1, 3] = [[1, 1], [1, 2]] := by decide +kernel
theorem ex_err : countE [1, 3] = 0 := by decide +kernel
theorem ex_meet : meetB [3, 1] [2, 3] = true ∧ zipI andI [3, 1] [2, 3] = [2, 1] := by decide +kernel
set_option maxRecDepth 100000 in
set_option maxHeartbeats 4000000 in
theorem awake_is (w : World) (H : Flg w) :
    Calls Tryd.prog 9 #[] w fun e w' => e = .returned (.bool true) ∧ Below w.heap.size w w' := by
  have HF := Lib.hid (fun wr (b : Below w.heap.size w wr) => H.below b)
  have b0 := below_box w (.cells #[.int .i64 1, .int .i64 3] 3)
  have L0 := Lib.hid (lin2 w 1 3 3 _ rfl)
  have B0 := Lib.hid b0
  clear H b0
  go_enter Tryd.func9, Tryd.ntmps9
  go_wp2_with fail
  refine (all_is _ 2 2 [1, 3] _ (HF.out _ B0.out) L0.out (by decide)).mono ?_
  rintro e w1 ⟨v, rfl, hv, b1⟩
  rw [ex_err, if_pos rfl, ex_all] at hv
  rw [ex_err]
  obtain ⟨a1, cp1, rfl, hcp1, hcp2⟩ := hv.length
  rw [show ([[1, 1], [1, 2]] : List (List Int)).length = 2 from rfl] at hv hcp1 ⊢
  obtain ⟨g, p0, d0, rfl, hg0, hg1, r0, l0, -⟩ := hv.get 0 (by decide)
  obtain ⟨g', p1, d1, e1, -, -, r1, l1, -⟩ := hv.get 1 (by decide)
  cases e1
  rw [show ([[1, 1], [1, 2]] : List (List Int))[0].length = 2 from rfl, show ([[1, 1], [1, 2]] : List (List Int))[0] = [1, 1] from rfl] at l0
  rw [show ([[1, 1], [1, 2]] : List (List Int))[1].length = 2 from rfl, show ([[1, 1], [1, 2]] : List (List Int))[1] = [1, 2] from rfl] at l1
  rw [show ([[1, 1], [1, 2]] : List (List Int))[0].length = 2 from rfl] at r0
  rw [show ([[1, 1], [1, 2]] : List (List Int))[1].length = 2 from rfl] at r1
  have R0 := Lib.hid r0
  have R1 := Lib.hid r1
  have L1 := Lib.hid l0
  have L2 := Lib.hid l1
  have G1 := Lib.hid hg1
  have B1 := Lib.hid (B0.out.trans (b1.mono (by simp)))
  unfold maxLen at hcp2
  clear hv b1 r0 r1 l0 l1 hg0 hg1 L0 B0
  have x1 := below_box w1 (.cells #[.int .i64 3, .int .i64 1] 3)
  have x2 := below_box (w1.alloc (.cells #[.int .i64 3, .int .i64 1] 3)) (.cells #[.int .i64 2, .int .i64 3] 3)
  have M1 := Lib.hid ((lin2 w1 3 1 3 _ rfl).below x2)
  have M2 := Lib.hid (lin2 (w1.alloc (.cells #[.int .i64 3, .int .i64 1] 3)) 2 3 3 (w1.heap.size + 1) (by simp))
  have X2 := Lib.hid (x1.trans (x2.mono (by simp)))
  have B2 := Lib.hid (B1.out.trans (X2.out.mono B1.out.size))
  clear x1 x2
  go_wp2_with fail
  refine (meet_is _ _ 2 2 2 2 [3, 1] [2, 3] _ (HF.out _ B2.out) M1.out M2.out (by decide)).mono ?_
  rintro e w2 ⟨v, rfl, hv, b2⟩
  rw [ex_meet.1, if_pos rfl, ex_meet.2] at hv
  rw [ex_meet.1]
  obtain ⟨p2, d2, rfl, l3, -⟩ := hv.lin
  rw [show ([2, 1] : List Int).length = 2 from rfl] at l3 ⊢
  have X3 := Lib.hid (X2.out.trans (b2.mono (by simp; omega)))
  have B3 := Lib.hid (B1.out.trans (X3.out.mono B1.out.size))
  have L3 := Lib.hid l3
  have hgw : g < w2.heap.size := Nat.lt_of_lt_of_le G1.out X3.out.size
  have r0 := (X3.out.cell (p := ⟨g, 0, none⟩) G1.out).trans R0.out
  have r1 := (X3.out.cell (p := ⟨g, 1, none⟩) G1.out).trans R1.out
  have L1 := Lib.hid (L1.out.below X3.out)
  have L2 := Lib.hid (L2.out.below X3.out)
  clear hv b2 l3 R0 R1 M1 M2 X2 B2
  have y1 := below_box w2 (.cells #[.int .i64 1, .int .i64 1] 3)
  have Q1 := Lib.hid (lin2 w2 1 1 3 _ rfl)
  have Y1 := Lib.hid y1
  clear y1
  go_wp2_with fail
  refine (ints_is _ _ 2 _ 2 _ [1, 1] [1, 1] true _ (L1.out.below Y1.out) Q1.out rfl).mono ?_
  rintro e w3 ⟨rfl, n1, rfl⟩
  have B4 := Lib.hid (B3.out.trans ((Y1.out.trans ((below_drewN _ n1).mono (by simp))).mono B3.out.size))
  have L2 := Lib.hid ((L2.out.below Y1.out).drewN n1)
  have L3 := Lib.hid ((L3.out.below Y1.out).drewN n1)
  clear Q1 Y1 L1
  have y1 := below_box ((w2.alloc (.cells #[.int .i64 1, .int .i64 1] 3)).drewN n1) (.cells #[.int .i64 1, .int .i64 2] 3)
  have Q1 := Lib.hid (lin2 ((w2.alloc (.cells #[.int .i64 1, .int .i64 1] 3)).drewN n1) 1 2 3 (w2.heap.size + 1) (by simp))
  have Y1 := Lib.hid y1
  clear y1
  go_wp2_with fail
  refine (ints_is _ _ 2 _ 2 _ [1, 2] [1, 2] true _ (L2.out.below Y1.out) Q1.out rfl).mono ?_
  rintro e w4 ⟨rfl, n2, rfl⟩
  have B5 := Lib.hid (B4.out.trans ((Y1.out.trans ((below_drewN _ n2).mono (by simp))).mono B4.out.size))
  have L3 := Lib.hid ((L3.out.below Y1.out).drewN n2)
  clear Q1 Y1 L2 r0 r1
  have y1 := below_box ((((w2.alloc (.cells #[.int .i64 1, .int .i64 1] 3)).drewN n1).alloc (.cells #[.int .i64 1, .int .i64 2] 3)).drewN n2) (.cells #[.int .i64 2, .int .i64 1] 3)
  have Q1 := Lib.hid (lin2 ((((w2.alloc (.cells #[.int .i64 1, .int .i64 1] 3)).drewN n1).alloc (.cells #[.int .i64 1, .int .i64 2] 3)).drewN n2) 2 1 3 (w2.heap.size + 1 + 1) (by simp))
  have Y1 := Lib.hid y1
  clear y1
  go_wp2_with fail
  refine (ints_is _ _ 2 _ 2 _ [2, 1] [2, 1] true _ (L3.out.below Y1.out) Q1.out rfl).mono ?_
  rintro e w5 ⟨rfl, n3, rfl⟩
  have B6 := Lib.hid (B5.out.trans ((Y1.out.trans ((below_drewN _ n3).mono (by simp))).mono B5.out.size))
  go_wp2
  go_ret
  exact ⟨rfl, B6.out⟩
end Go.Proofs.YtpobgdolhdlmeaaDoor.msk
