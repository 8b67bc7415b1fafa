/- The walk of the comparison of two lists of ints. No condition. -/
import Derived.Test.YtoeojhabhnoojaaDoorMkMd
namespace Go.Proofs.YtoeojhabhnoojaaDoor.msk
open Go.RowKit lex aggs kit net deck


set_option maxRecDepth 100000 in
set_option maxHeartbeats 4000000 in
theorem ints_is (a b : Option Addr) (N c M d : Nat) (xs ys : List Int) (r : Bool) (w : World) (h : LIn w a N c xs) (k : LIn w b M d ys) (hr : decide (xs = ys) = r) :
    Calls Tryd.prog 24 #[.slice a N c, .slice b M d] w fun e w' => e = .returned (.bool r) ∧ ∃ n, w' = w.drewN n := by
  subst hr
  have hn := Lib.hid h.len
  have hm := Lib.hid k.len
  have HL := Lib.hid h
  have KL := Lib.hid k
  have n2 := h.cap
  have n3 := h.max
  have m2 := k.cap
  have m3 := k.max
  unfold maxLen at n3 m3
  clear h k
  by_cases e : N = M
  · subst e
    have T1 : ((N : Int) != (N : Int)) = false := by simp
    go_enter Tryd.func24, Tryd.ntmps24
    go_wp2
    go_loopw [5] (fun i wr => ∃ k : Nat, k ≤ N ∧ i = .int .i64 k ∧ Hid (∀ j, j < k → at0 xs j = at0 ys j) ∧ Hid (∃ n, wr = w.drewN n)) (fun i _ => N - (intOf i).toNat)
    case atStart => exact ⟨0, Nat.zero_le _, rfl, fun j hj => absurd hj (Nat.not_lt_zero j), 0, rfl⟩
    case round =>
      obtain ⟨k, hk, rfl, hd, hdr⟩ := hrel
      obtain ⟨nn, rfl⟩ := hdr.out
      by_cases hlt : k < N
      · obtain ⟨g, o, rfl, -, hc⟩ := HL.out.rin.some (by rw [hn.out]; omega)
        obtain ⟨g2, o2, rfl, -, hc2⟩ := KL.out.rin.some (by rw [hm.out]; omega)
        have c0 := cells_i hc k (by rw [hn.out]; exact hlt)
        have c1 := cells_i hc2 k (by rw [hm.out]; exact hlt)
        obtain ⟨X, hX⟩ : ∃ x, at0 xs k = x := ⟨_, rfl⟩
        obtain ⟨Y, hY⟩ : ∃ x, at0 ys k = x := ⟨_, rfl⟩
        rw [hX] at c0
        rw [hY] at c1
        have HX := Lib.hid hX
        have HY := Lib.hid hY
        clear hX hY hc hc2
        by_cases exy : X = Y
        · have T2 : (X != Y) = false := by simp [exy]
          have Y2 : Hid (∀ j, j < k + 1 → at0 xs j = at0 ys j) := fun j hj => by
            by_cases e : j = k
            · subst e; rw [HX.out, HY.out]; exact exy
            · exact hd.out j (by omega)
          clear exy
          go_wp2
          go_quiet (fail)
          go_wp2
          go_roundw
          case rel => exact ⟨k + 1, by omega, by go_num, Y2, _, rfl⟩
          case measure => simp [intOf]; omega
        · have T2 : (X != Y) = true := bne_iff_ne.2 exy
          have N2 : Hid (decide (xs = ys) = false) := decide_eq_false (fun e => exy (by rw [← HX.out, ← HY.out, e]))
          clear exy
          go_wp2
          go_quiet (fail)
          go_wp2
          go_ret
          exact ⟨ret_bool N2.out.symm, _, World.drewN_drewN _ _ _⟩
      · obtain rfl : k = N := by omega
        have Y2 : Hid (decide (xs = ys) = true) := decide_eq_true (ext0 (by rw [hn.out, hm.out]) (fun i hi => hd.out i (by rw [hn.out] at hi; exact hi)))
        go_wp2
        go_ret
        exact ⟨ret_bool Y2.out.symm, nn, rfl⟩
  · have T1 : ((N : Int) != (M : Int)) = true := bne_iff_ne.2 (by omega)
    have N2 : Hid (decide (xs = ys) = false) := decide_eq_false (fun e2 => e (by rw [← hn.out, ← hm.out, e2]))
    go_enter Tryd.func24, Tryd.ntmps24
    go_wp2
    go_ret
    exact ⟨ret_bool N2.out.symm, 0, rfl⟩
theorem lin2 (w : World) (x y : Int) (T : Nat) (g : Nat) (hg : g = w.heap.size) : LIn (w.alloc (.cells #[.int .i64 x, .int .i64 y] T)) (some ⟨g, 0, none⟩) 2 2 [x, y] := by
  subst hg
  refine ⟨rfl, Nat.le_refl _, by decide, .inr ⟨_, 0, rfl, by simp, fun i u hu => ?_⟩, fun h => by cases h⟩
  have e : (w.alloc (.cells #[.int .i64 x, .int .i64 y] T)).heap[w.heap.size]? = some (.cells #[.int .i64 x, .int .i64 y] T (0, 0)) := heap_alloc_new w _
  rw [Nat.zero_add]
  simp only [World.cell?, e]
  simpa [flat, encI] using hu
theorem LIn.drewN {w : World} {a : Option Addr} {N c : Nat} {xs : List Int} (h : LIn w a N c xs) (n : Nat) : LIn (w.drewN n) a N c xs := h.below (below_drewN w n)
end Go.Proofs.YtoeojhabhnoojaaDoor.msk
