/- The walks of layer 6: areMasks, Meet, Join, Finer, Agrees. Conditions: the table 'flags' holds what its text lays; at most 64 elements. -/
import Derived.Test.YtpobgdolhdlmeaaDoorMkC
namespace Go.Proofs.YtpobgdolhdlmeaaDoor.msk
open Go.RowKit lex aggs kit net deck

set_option maxRecDepth 100000 in
set_option maxHeartbeats 1000000 in
theorem areMasks_is (a b : Option Addr) (N c M d : Nat) (xs ys : List Int) (r : Bool) (w : World) (H : Flg w) (h : LIn w a N c xs) (k : LIn w b M d ys) (hr : areB xs ys = r) :
    Calls Tryd.prog 52 #[.slice a N c, .slice b M d] w fun e w' => e = .returned (.bool r) ∧ w = w' := by
  subst hr
  have n2 := h.cap
  have n3 := h.max
  have m2 := k.cap
  have m3 := k.max
  unfold maxLen at n3 m3
  have HH := Lib.hid H
  have HL := Lib.hid h
  have KL := Lib.hid k
  have hn := h.len
  have hm := k.len
  clear H h k
  by_cases e : N = M
  · obtain ⟨p, hp⟩ : ∃ p, xs.all mB = p := ⟨_, rfl⟩
    obtain ⟨q, hq⟩ : ∃ q, ys.all mB = q := ⟨_, rfl⟩
    have e2 : areB xs ys = (p && q) := by unfold areB; rw [decide_eq_true (by omega), hp, hq, Bool.true_and]
    rw [e2]
    subst e
    have HP := Lib.hid hp
    have HQ := Lib.hid hq
    have T1 : ((N : Int) == (N : Int)) = true := beq_self_eq_true _
    clear hp hq e2 hn hm
    cases p
    · go_enter Tryd.func52, Tryd.ntmps52
      go_wp2_with fail
      refine (allHave_is 1 a N c xs _ _ HH.out (.inl rfl) HL.out HP.out).mono ?_; rintro e w' ⟨rfl, rfl⟩
      go_wp2
      go_ret
      exact ⟨rfl, rfl⟩
    · go_enter Tryd.func52, Tryd.ntmps52
      go_wp2_with fail
      refine (allHave_is 1 a N c xs _ _ HH.out (.inl rfl) HL.out HP.out).mono ?_; rintro e w' ⟨rfl, rfl⟩
      go_wp2_with fail
      refine (allHave_is 1 b N d ys _ _ HH.out (.inl rfl) KL.out HQ.out).mono ?_; rintro e w' ⟨rfl, rfl⟩
      cases q
      all_goals (
        go_wp2
        go_ret
        exact ⟨rfl, rfl⟩)
  · have e2 : areB xs ys = false := by unfold areB; rw [decide_eq_false (by omega)]; rfl
    rw [e2]
    have T1 : ((N : Int) == (M : Int)) = false := beq_eq_false_iff_ne.2 (by omega)
    clear e2 hn hm
    go_enter Tryd.func52, Tryd.ntmps52
    go_wp2
    go_ret
    exact ⟨rfl, rfl⟩
theorem made_flat (N : Nat) : (madeCells #[.int .i64 0] N).toList = flat encI (List.replicate N 0) ∧ (madeCells #[.int .i64 0] N).size = N := by
  have e : ∀ n, flat encI (List.replicate n 0) = List.replicate n (.int .i64 0) := fun n => by
    induction n with
    | zero => rfl
    | succ n ih => rw [List.replicate_succ, flat_cons, ih, List.replicate_succ]; rfl
  unfold madeCells
  refine ⟨?_, by simp⟩
  rw [e]
  apply List.ext_getElem
  · simp
  · intro i h1 h2; simp [Nat.mod_one]
theorem OwnI.made (w : World) (N : Nat) (h : N ≤ maxLen) : OwnI (w.alloc (.cells (madeCells #[.int .i64 0] N) 3)) w.heap.size (.slice (Option.some ⟨w.heap.size, 0, none⟩) N N) (List.replicate N 0) := by
  obtain ⟨h1, h2⟩ := made_flat N
  show _ ∧ _
  refine ⟨by rw [flat_length encI_len], .inr ⟨w.heap.size, N, _, by rw [List.length_replicate], Nat.le_refl _, heap_alloc_new w _, by rw [List.length_replicate]; exact Nat.le_refl _, h, by rw [h2, Nat.mul_one], ?_⟩⟩
  rw [h1, List.take_of_length_le (by rw [flat_length encI_len]; exact Nat.le_refl _)]
theorem make_ints (N : Nat) (hN : N ≤ 64) (W : World) : (Instr.makeSlice 22 (.int .i64 (N : Int)) (.int .i64 (N : Int))).run Tryd.prog W = .ok (.slice (some ⟨W.heap.size, 0, none⟩) N N) (W.alloc (.cells (madeCells #[.int .i64 0] N) 3)) :=
  run_make_row' 22 3 (.int .i64 0) 8 Tryd.underlying22 (by kernel_rfl) rfl .i64 .i64 N (by omega) (by omega) W
/-- the first k of a zip, the rest zero -/
def prL (zs : List Int) (k : Nat) : List Int := (List.range zs.length).map fun i => if i < k then at0 zs i else 0
theorem prL_len (zs : List Int) (k : Nat) : (prL zs k).length = zs.length := by simp [prL]
theorem prL_at {zs : List Int} {k i : Nat} (hi : i < zs.length) : at0 (prL zs k) i = if i < k then at0 zs i else 0 := by
  rw [at0_get (by rw [prL_len]; exact hi)]; simp [prL]
theorem prL_zero {zs : List Int} {N : Nat} (h : zs.length = N) : prL zs 0 = List.replicate N 0 := by
  refine ext0 (by rw [prL_len, List.length_replicate, h]) (fun i hi => ?_)
  rw [prL_len] at hi
  rw [prL_at hi, if_neg (Nat.not_lt_zero i)]
  unfold at0
  rw [List.getD_eq_getElem?_getD, List.getElem?_replicate, if_pos (by omega)]; rfl
theorem prL_end {zs : List Int} {N : Nat} (h : zs.length = N) : prL zs N = zs := by
  refine ext0 (prL_len _ _) (fun i hi => ?_)
  rw [prL_len] at hi
  rw [prL_at hi, if_pos (by omega)]
theorem prL_step {zs : List Int} {k : Nat} (h : k < zs.length) {z : Int} (hz : at0 zs k = z) : (prL zs k).set k z = prL zs (k + 1) := by
  refine ext0 (by rw [List.length_set, prL_len, prL_len]) (fun i hi => ?_)
  rw [List.length_set, prL_len] at hi
  rw [at0_set _ (by rw [prL_len]; exact h), prL_at hi, prL_at hi]
  by_cases e : i = k
  · subst e; rw [if_pos rfl, if_pos (by omega), hz]
  · rw [if_neg e]
    by_cases hk : i < k
    · rw [if_pos hk, if_pos (by omega)]
    · rw [if_neg hk, if_neg (by omega)]
set_option maxRecDepth 100000 in
set_option maxHeartbeats 4000000 in
theorem join_is (a b : Option Addr) (N c M d : Nat) (xs ys : List Int) (w : World) (H : Flg w) (h : LIn w a N c xs) (k : LIn w b M d ys) (h64 : N ≤ 64) :
    Calls Tryd.prog 32 #[.slice a N c, .slice b M d] w (NewI w (if areB xs ys = true then zipI orI xs ys else [])) := by
  have HH := Lib.hid H
  have hn := Lib.hid h.len
  have HL := Lib.hid (fun wr (b : Below w.heap.size w wr) => h.below b)
  have KL := Lib.hid (fun wr (b : Below w.heap.size w wr) => k.below b)
  have n2 := h.cap
  have n3 := h.max
  have m2 := k.cap
  have m3 := k.max
  unfold maxLen at n3 m3
  clear H h k
  obtain ⟨r, hr⟩ : ∃ r, areB xs ys = r := ⟨_, rfl⟩
  have HR := Lib.hid hr
  rw [hr]
  clear hr
  cases r
  · rw [if_neg Bool.false_ne_true]
    go_enter Tryd.func32, Tryd.ntmps32
    go_wp2_with fail
    refine (areMasks_is a b N c M d xs ys false _ HH.out (HL.out _ (Below.refl _ _)) (KL.out _ (Below.refl _ _)) HR.out).mono ?_; rintro e w' ⟨rfl, rfl⟩
    go_wp2
    go_ret
    exact ⟨_, rfl, AggsAt.nil _ _ _ _ _, Below.refl _ _⟩
  · rw [if_pos rfl]
    have hmk := make_ints N h64 w
    have own0 : OwnI (w.alloc (.cells (madeCells #[.int .i64 0] N) 3)) w.heap.size (.slice (some ⟨w.heap.size, 0, none⟩) N N) (prL (zipI orI xs ys) 0) := by
      rw [prL_zero (by rw [zipI_len, hn.out])]; exact OwnI.made w N (by unfold maxLen; omega)
    have bx := below_box w (.cells (madeCells #[.int .i64 0] N) 3)
    have O0 := Lib.hid own0
    have BX := Lib.hid bx
    clear own0 bx
    go_enter Tryd.func32, Tryd.ntmps32
    go_wp2_with fail
    refine (areMasks_is a b N c M d xs ys true _ HH.out (HL.out _ (Below.refl _ _)) (KL.out _ (Below.refl _ _)) HR.out).mono ?_; rintro e w' ⟨rfl, rfl⟩
    go_wp2
    obtain ⟨x, hx⟩ : ∃ x, w.heap.size = x := ⟨_, rfl⟩
    have HX := Lib.hid hx
    rw [hx] at O0 BX HL KL ⊢
    clear hmk hx
    generalize w.alloc (.cells (madeCells #[.int .i64 0] N) 3) = w2 at *
    go_loopw [16] (fun i wr => ∃ k : Nat, k ≤ N ∧ i = .int .i64 k ∧ Hid (OwnI wr x (.slice (some ⟨x, 0, none⟩) N N) (prL (zipI orI xs ys) k)) ∧ Hid (Below x w wr)) (fun i _ => N - (intOf i).toNat)
    case atStart => exact ⟨0, Nat.zero_le _, rfl, O0.out, BX.out⟩
    case round =>
      clear O0 BX
      obtain ⟨k, hk, rfl, own, bel⟩ := hrel
      by_cases hlt : k < N
      · have hkx : k < xs.length := by rw [hn.out]; exact hlt
        have hly := (areB_iff.1 HR.out).1
        obtain ⟨p, q⟩ := areB_at HR.out hkx
        have hx2 := HL.out _ bel.out
        have hy2 := KL.out _ bel.out
        have hM : M = N := by rw [← hy2.len, ← hly, hn.out]
        obtain ⟨g, o, rfl, -, hc⟩ := hx2.rin.some (by omega)
        obtain ⟨g2, o2, rfl, -, hc2⟩ := hy2.rin.some (by omega)
        have c0 := cells_i hc k hkx
        have c1 := cells_i hc2 k (by omega)
        have ho := bits_or p q
        have hz : at0 (zipI orI xs ys) k = orI (at0 xs k) (at0 ys k) := zipI_at hkx
        generalize at0 xs k = X at *
        generalize at0 ys k = Y at *
        generalize orI X Y = Z at *
        obtain ⟨g3, e3, hlen, -, -, -, -, hcell⟩ := own.out.some (by omega)
        cases e3
        obtain ⟨c2, f2⟩ := hcell k hlt
        have st := own.out.set hlen k hlt Z
        rw [prL_step (by rw [zipI_len]; exact hkx) hz] at st
        have NU := Lib.hid st.1
        have NB := Lib.hid (bel.out.grown st.2 (by rw [← HX.out]; exact bel.out.size) (fun q hq => by cases hq; exact Nat.le_refl _))
        clear st hcell hc hc2 hlen own bel hz hx2 hy2 hkx hly
        go_wp2
        go_region
        all_goals (
          go_wp2
          go_roundw
          case rel => exact ⟨k + 1, by omega, by go_num, NU, NB.out.drew⟩
          case measure => simp [intOf]; omega)
      · obtain rfl : k = N := by omega
        have FIN : Hid (OwnI wr x (.slice (some ⟨x, 0, none⟩) k k) (zipI orI xs ys)) := by
          show OwnI _ _ _ _
          have := own.out
          rw [prL_end (by rw [zipI_len, hn.out])] at this; exact this
        go_wp2
        go_ret
        exact ⟨_, rfl, by rw [HX.out]; exact FIN.out, by rw [HX.out]; exact bel.out⟩
end Go.Proofs.YtpobgdolhdlmeaaDoor.msk
