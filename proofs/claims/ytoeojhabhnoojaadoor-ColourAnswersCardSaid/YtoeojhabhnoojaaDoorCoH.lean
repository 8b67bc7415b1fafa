/- The walk of the comparison of two lists of shades. No condition. -/
import Derived.Test.YtoeojhabhnoojaaDoorCoE
namespace Go.Proofs.YtoeojhabhnoojaaDoor.col
open Go.RowKit Go.Maps lex aggs kit net deck msk

/-- a slice of shades that can be read -/
structure SIn (w : World) (a : Option Addr) (N c : Nat) (xs : List Sh) : Prop where
  len : xs.length = N
  cap : N ≤ c
  max : c ≤ maxLen
  rin : RIn encS 4 w a xs
theorem SIn.below {w w' : World} {a : Option Addr} {N c : Nat} {xs : List Sh} (h : SIn w a N c xs) (hb : Below w.heap.size w w') : SIn w' a N c xs := ⟨h.len, h.cap, h.max, h.rin.below hb⟩
theorem OwnS.sin {w : World} {base : Nat} {v : Value} {xs : List Sh} (h : OwnS w base v xs) : ∃ a c, v = .slice a xs.length c ∧ SIn w a xs.length c xs := by
  rcases AggsAt.shape h encS_len with ⟨rfl, rfl⟩ | ⟨g, cap, rfl, q1, q2, q3, q4, q5, _⟩
  · exact ⟨none, 0, rfl, ⟨rfl, Nat.le_refl _, Nat.zero_le _, .inl ⟨rfl, rfl⟩⟩⟩
  · exact ⟨_, _, rfl, ⟨rfl, q3, q4, .inr ⟨g, 0, rfl, q2, q5⟩⟩⟩
theorem cells_s {w : World} {b o : Nat} {xs : List Sh} (h : CellsAt encS 4 w b o xs) (j : Nat) (hj : j < xs.length) :
    w.cell? ⟨b, o + j * 4, none⟩ = some (.bool xs[j].ml) ∧ w.cell? ⟨b, o + j * 4 + 1, none⟩ = some (.bool xs[j].tl) ∧ w.cell? ⟨b, o + j * 4 + 2, none⟩ = some (.bool xs[j].me) ∧ w.cell? ⟨b, o + j * 4 + 3, none⟩ = some (.bool xs[j].te) := by
  have k : ∀ i, i < 4 → ∀ u, (encS xs[j])[i]? = some u → w.cell? ⟨b, o + (j * 4 + i), none⟩ = some u := fun i hi u hu => h.get encS_len j hj i hi u hu
  refine ⟨?_, ?_, ?_, ?_⟩
  · simpa using k 0 (by decide) _ rfl
  · simpa [Nat.add_assoc] using k 1 (by decide) _ rfl
  · simpa [Nat.add_assoc] using k 2 (by decide) _ rfl
  · simpa [Nat.add_assoc] using k 3 (by decide) _ rfl
theorem list_ext_no {xs ys : List Sh} {k : Nat} (h1 : k < xs.length) (h2 : k < ys.length) (h : xs[k] ≠ ys[k]) : decide (xs = ys) = false := decide_eq_false (fun e => by subst e; exact h rfl)
theorem guard_sh : Tryd.prog.eqGuardType Tryd.prog.depth 55 = false := by kernel_rfl
theorem neq_sh (w : World) (X Y : Sh) : (binOp .neq 55 (.agg #[.bool X.ml, .bool X.tl, .bool X.me, .bool X.te]) (.agg #[.bool Y.ml, .bool Y.tl, .bool Y.me, .bool Y.te])).run Tryd.prog w = .ok (.bool (!decide (X = Y))) w := by
  obtain ⟨a, b, c, d⟩ := X
  obtain ⟨p, q, r, s⟩ := Y
  cases a <;> cases b <;> cases c <;> cases d <;> cases p <;> cases q <;> cases r <;> cases s <;> kernel_rfl
set_option maxRecDepth 100000 in
set_option maxHeartbeats 4000000 in
theorem same_is (a b : Option Addr) (N c M d : Nat) (xs ys : List Sh) (r : Bool) (w : World) (h : SIn w a N c xs) (k : SIn w b M d ys) (hr : decide (xs = ys) = r) :
    Calls Tryd.prog 25 #[.slice a N c, .slice b M d] w fun e w' => e = .returned (.bool r) ∧ ∃ n, w' = w.drewN n := by
  subst hr
  have hn := Lib.hid h.len
  have hm := Lib.hid k.len
  have n2 := h.cap
  have n3 := h.max
  have m2 := k.cap
  have m3 := k.max
  unfold maxLen at n3 m3
  have HL := Lib.hid h
  have KL := Lib.hid k
  clear h k
  by_cases e : N = M
  · subst e
    have T1 : ((N : Int) != (N : Int)) = false := bne_self_eq_false _
    go_enter Tryd.func25, Tryd.ntmps25
    go_wp2_with fail
    go_loopw [13] (fun i wr => ∃ k : Nat, k ≤ N ∧ i = .int .i64 k ∧ Hid (∀ j (h1 : j < xs.length) (h2 : j < ys.length), j < k → xs[j] = ys[j]) ∧ Hid (∃ n, wr = w.drewN n)) (fun i _ => N - (intOf i).toNat)
    case atStart => exact ⟨0, Nat.zero_le _, rfl, fun j _ _ hj => absurd hj (Nat.not_lt_zero j), 0, rfl⟩
    case round =>
      obtain ⟨k, hk, rfl, hd, nn⟩ := hrel
      obtain ⟨n, rfl⟩ := nn.out
      by_cases hlt : k < N
      · have hx1 : k < xs.length := by rw [hn.out]; exact hlt
        have hy1 : k < ys.length := by rw [hm.out]; exact hlt
        obtain ⟨g, o, rfl, hg, hc⟩ := HL.out.rin.some (by omega)
        obtain ⟨g2, o2, rfl, hg2, hc2⟩ := KL.out.rin.some (by omega)
        obtain ⟨c0, c1, c2, c3⟩ := cells_s hc k hx1
        obtain ⟨d0, d1, d2, d3⟩ := cells_s hc2 k hy1
        have NO := Lib.hid (fun h => list_ext_no hx1 hy1 h)
        have YES : Hid (xs[k] = ys[k] → ∀ j (h1 : j < xs.length) (h2 : j < ys.length), j < k + 1 → xs[j] = ys[j]) := fun h j h1 h2 hj => by
          by_cases e : j = k
          · subst e; exact h
          · exact hd.out j h1 h2 (by omega)
        generalize xs[k] = X at *
        generalize ys[k] = Y at *
        have hg1 := guard_sh
        have hq := fun w => neq_sh w X Y
        clear hc hc2 hg hg2 hd hx1 hy1
        by_cases e : X = Y
        · have T2 : decide (X = Y) = true := decide_eq_true e
          rw [T2] at hq
          have Y2 := Lib.hid (YES.out e)
          clear e T2 NO YES
          go_wp2
          go_quiet (fail)
          go_wp2
          go_roundw
          case rel => exact ⟨k + 1, by omega, by go_num, Y2, _, rfl⟩
          case measure => simp [intOf]; omega
        · have T2 : decide (X = Y) = false := decide_eq_false e
          rw [T2] at hq
          have N2 := Lib.hid (NO.out e)
          clear e T2 NO YES
          go_wp2
          go_quiet (fail)
          go_wp2
          go_ret
          exact ⟨msk.ret_bool N2.out.symm, _, World.drewN_drewN _ _ _⟩
      · obtain rfl : k = N := by omega
        have Y2 := Lib.hid (decide_eq_true (List.ext_getElem (hn.out.trans hm.out.symm) (fun j h1 h2 => hd.out j h1 h2 (by rw [hn.out] at h1; exact h1))))
        go_wp2
        go_ret
        exact ⟨msk.ret_bool Y2.out.symm, n, rfl⟩
  · have T1 : ((N : Int) != (M : Int)) = true := bne_iff_ne.2 (by omega)
    have e2 : decide (xs = ys) = false := decide_eq_false (fun h => by subst h; exact e (by rw [← hn.out, ← hm.out]))
    rw [e2]
    clear e2
    go_enter Tryd.func25, Tryd.ntmps25
    go_wp2
    go_ret
    exact ⟨rfl, 0, rfl⟩
end Go.Proofs.YtoeojhabhnoojaaDoor.col
