/- The walks of layer 6: Meet, Finer, Agrees. Conditions: the table 'flags' holds what its text lays; at most 64 elements. -/
import Derived.Test.YtpobgdolhdlmeaaDoorMkD
namespace Go.Proofs.YtpobgdolhdlmeaaDoor.msk
open Go.RowKit lex aggs kit net deck

/-- what Meet leaves -/
def MeetPost (w : World) (xs ys : List Int) (e : Ending) (w' : World) : Prop :=
  ∃ v, e = .returned (.tuple #[v, .bool (meetB xs ys)]) ∧ OwnI w' w.heap.size v (if meetB xs ys = true then zipI andI xs ys else []) ∧ Below w.heap.size w w'
theorem meet_ret {v : Value} {xs ys : List Int} {r : Bool} (h : meetB xs ys = r) : Ending.returned (.tuple #[v, .bool r]) = .returned (.tuple #[v, .bool (meetB xs ys)]) := by rw [h]
set_option maxRecDepth 100000 in
set_option maxHeartbeats 4000000 in
theorem meet_is (a b : Option Addr) (N c M d : Nat) (xs ys : List Int) (w : World) (H : Flg w) (h : LIn w a N c xs) (k : LIn w b M d ys) (h64 : N ≤ 64) :
    Calls Tryd.prog 30 #[.slice a N c, .slice b M d] w (MeetPost w xs ys) := by
  have HH := Lib.hid H
  have hn := Lib.hid h.len
  have HL := Lib.hid (fun wr (b : Below w.heap.size w wr) => h.below b)
  have KL := Lib.hid (fun wr (b : Below w.heap.size w wr) => k.below b)
  have n2 := h.cap
  have n3 := h.max
  have m2 := k.cap
  have m3 := k.max
  unfold maxLen at n3 m3
  clear H h k
  obtain ⟨r, hr⟩ : ∃ r, areB xs ys = r := ⟨_, rfl⟩
  have HR := Lib.hid hr
  clear hr
  cases r
  · have hmb := Lib.hid (meetB_are HR.out)
    go_enter Tryd.func30, Tryd.ntmps30
    go_wp2_with fail
    refine (areMasks_is a b N c M d xs ys false _ HH.out (HL.out _ (Below.refl _ _)) (KL.out _ (Below.refl _ _)) HR.out).mono ?_; rintro e w' ⟨rfl, rfl⟩
    go_wp2
    go_ret2
    exact ⟨_, meet_ret hmb.out, by rw [hmb.out]; exact AggsAt.nil _ _ _ _ _, Below.refl _ _⟩
  · have hmb := Lib.hid (meetB_is HR.out)
    have hmk := make_ints N h64 w
    have own0 : OwnI (w.alloc (.cells (madeCells #[.int .i64 0] N) 3)) w.heap.size (.slice (some ⟨w.heap.size, 0, none⟩) N N) (prL (zipI andI xs ys) 0) := by
      rw [prL_zero (by rw [zipI_len, hn.out])]; exact OwnI.made w N (by unfold maxLen; omega)
    have bx := below_box w (.cells (madeCells #[.int .i64 0] N) 3)
    have O0 := Lib.hid own0
    have BX := Lib.hid bx
    clear own0 bx
    go_enter Tryd.func30, Tryd.ntmps30
    go_wp2_with fail
    refine (areMasks_is a b N c M d xs ys true _ HH.out (HL.out _ (Below.refl _ _)) (KL.out _ (Below.refl _ _)) HR.out).mono ?_; rintro e w' ⟨rfl, rfl⟩
    go_wp2
    obtain ⟨x, hx⟩ : ∃ x, w.heap.size = x := ⟨_, rfl⟩
    have HX := Lib.hid hx
    rw [hx] at O0 BX HL KL ⊢
    clear hmk hx
    generalize w.alloc (.cells (madeCells #[.int .i64 0] N) 3) = w2 at *
    go_loopw [17] (fun i wr => ∃ k : Nat, k ≤ N ∧ i = .int .i64 k ∧ Hid (OwnI wr x (.slice (some ⟨x, 0, none⟩) N N) (prL (zipI andI xs ys) k)) ∧ Hid (Below x w wr)) (fun i _ => N - (intOf i).toNat)
    case atStart => exact ⟨0, Nat.zero_le _, rfl, O0.out, BX.out⟩
    case round =>
      clear O0 BX
      obtain ⟨k, hk, rfl, own, bel⟩ := hrel
      by_cases hlt : k < N
      · have hkx : k < xs.length := by rw [hn.out]; exact hlt
        have hly := (areB_iff.1 HR.out).1
        obtain ⟨p, q⟩ := areB_at HR.out hkx
        have hx2 := HL.out _ bel.out
        have hy2 := KL.out _ bel.out
        have hM : M = N := by rw [← hy2.len, ← hly, hn.out]
        obtain ⟨g, o, rfl, -, hc⟩ := hx2.rin.some (by omega)
        obtain ⟨g2, o2, rfl, -, hc2⟩ := hy2.rin.some (by omega)
        have c0 := cells_i hc k hkx
        have c1 := cells_i hc2 k (by omega)
        have ho := bits_and p q
        have hz : at0 (zipI andI xs ys) k = andI (at0 xs k) (at0 ys k) := zipI_at hkx
        generalize at0 xs k = X at *
        generalize at0 ys k = Y at *
        generalize andI X Y = Z at *
        obtain ⟨g3, e3, hlen, -, -, -, -, hcell⟩ := own.out.some (by omega)
        cases e3
        obtain ⟨c2, f2⟩ := hcell k hlt
        have st := own.out.set hlen k hlt Z
        rw [prL_step (by rw [zipI_len]; exact hkx) hz] at st
        have NU := Lib.hid st.1
        have NB := Lib.hid (bel.out.grown st.2 (by rw [← HX.out]; exact bel.out.size) (fun q hq => by cases hq; exact Nat.le_refl _))
        clear st hcell hc hc2 hlen own bel hz hx2 hy2 hkx hly
        go_wp2
        go_region
        all_goals (
          go_wp2
          go_roundw
          case rel => exact ⟨k + 1, by omega, by go_num, NU, NB.out.drew⟩
          case measure => simp [intOf]; omega)
      · obtain rfl : k = N := by omega
        have FIN : Hid (OwnI wr x (.slice (some ⟨x, 0, none⟩) k k) (zipI andI xs ys)) := by
          show OwnI _ _ _ _
          have := own.out
          rw [prL_end (by rw [zipI_len, hn.out])] at this; exact this
        have LF := Lib.hid (OwnI.lin FIN.out)
        obtain ⟨r, hr⟩ : ∃ r, meetB xs ys = r := ⟨_, rfl⟩
        have HRR := Lib.hid hr
        have HA : Hid ((zipI andI xs ys).all mB = r) := by show _ = _; rw [← hmb.out]; exact hr
        have hfl := Lib.hid (HH.out.below (by rw [HX.out]; exact bel.out))
        have LI : Hid (LIn wr (some ⟨x, 0, none⟩) k k (zipI andI xs ys)) := by
          obtain ⟨a1, c1, e1, l1, -⟩ := LF.out
          have e2 : (zipI andI xs ys).length = k := by rw [zipI_len, hn.out]
          rw [e2] at e1 l1
          cases e1; exact l1
        clear hr LF
        go_wp2_with fail
        refine (allHave_is 1 _ _ _ _ r _ hfl.out (.inl rfl) LI.out HA.out).mono ?_; rintro e w' ⟨rfl, rfl⟩
        cases r
        · go_wp2
          go_ret2
          exact ⟨_, meet_ret HRR.out, by rw [HRR.out]; exact AggsAt.nil _ _ _ _ _, by rw [HX.out]; exact bel.out⟩
        · go_wp2
          go_ret2
          exact ⟨_, meet_ret HRR.out, by rw [HRR.out, HX.out]; exact FIN.out, by rw [HX.out]; exact bel.out⟩
set_option maxRecDepth 100000 in
set_option maxHeartbeats 4000000 in
theorem finer_is (a b : Option Addr) (N c M d : Nat) (xs ys : List Int) (r : Bool) (w : World) (H : Flg w) (h : LIn w a N c xs) (k : LIn w b M d ys) (hr : finB xs ys = r) :
    Calls Tryd.prog 34 #[.slice a N c, .slice b M d] w fun e w' => e = .returned (.bool r) ∧ ∃ n, w' = w.drewN n := by
  subst hr
  have HH := Lib.hid H
  have hn := Lib.hid h.len
  have hm := Lib.hid k.len
  have HL := Lib.hid h
  have KL := Lib.hid k
  have n2 := h.cap
  have n3 := h.max
  have m2 := k.cap
  have m3 := k.max
  unfold maxLen at n3 m3
  clear H h k
  obtain ⟨r, hr⟩ : ∃ r, areB xs ys = r := ⟨_, rfl⟩
  have HR := Lib.hid hr
  clear hr
  cases r
  · rw [finB_are HR.out]
    go_enter Tryd.func34, Tryd.ntmps34
    go_wp2_with fail
    refine (areMasks_is a b N c M d xs ys false _ HH.out HL.out KL.out HR.out).mono ?_; rintro e w' ⟨rfl, rfl⟩
    go_wp2
    go_ret
    exact ⟨rfl, 0, rfl⟩
  · go_enter Tryd.func34, Tryd.ntmps34
    go_wp2_with fail
    refine (areMasks_is a b N c M d xs ys true _ HH.out HL.out KL.out HR.out).mono ?_; rintro e w' ⟨rfl, rfl⟩
    go_wp2
    go_loopw [12] (fun i wr => ∃ k : Nat, k ≤ N ∧ i = .int .i64 k ∧ Hid (∀ j, j < k → andI (at0 xs j) (at0 ys j) = at0 xs j) ∧ Hid (∃ n, wr = w.drewN n)) (fun i _ => N - (intOf i).toNat)
    case atStart => exact ⟨0, Nat.zero_le _, rfl, fun j hj => absurd hj (Nat.not_lt_zero j), 0, rfl⟩
    case round =>
      obtain ⟨k, hk, rfl, hd, hdr⟩ := hrel
      obtain ⟨nn, rfl⟩ := hdr.out
      by_cases hlt : k < N
      · have hkx : k < xs.length := by rw [hn.out]; exact hlt
        have hly := (areB_iff.1 HR.out).1
        obtain ⟨p, q⟩ := areB_at HR.out hkx
        have hM : M = N := by rw [← hm.out, ← hly, hn.out]
        obtain ⟨g, o, rfl, -, hc⟩ := HL.out.rin.some (by omega)
        obtain ⟨g2, o2, rfl, -, hc2⟩ := KL.out.rin.some (by omega)
        have c0 := cells_i hc k hkx
        have c1 := cells_i hc2 k (by omega)
        have ho := bits_not p q
        have no := fun h => finB_no (a := xs) (b := ys) (i := k) hkx h
        have NO := Lib.hid no
        have YES : Hid (andI (at0 xs k) (at0 ys k) = at0 xs k → ∀ j, j < k + 1 → andI (at0 xs j) (at0 ys j) = at0 xs j) := fun h j hj => by
          by_cases e : j = k
          · subst e; exact h
          · exact hd.out j (by omega)
        clear no hd
        generalize at0 xs k = X at *
        generalize at0 ys k = Y at *
        clear hc hc2 hly hkx
        obtain ⟨B, hB⟩ : ∃ z, bits BinOp.andNot IntKind.i64 X Y = z := ⟨_, rfl⟩
        rw [hB] at ho
        have HO := Lib.hid ho
        by_cases h0 : B = 0
        · have T1 : (bits BinOp.andNot IntKind.i64 X Y != 0) = false := by rw [hB, h0]; rfl
          have Y2 := Lib.hid (YES.out (by rw [← HO.out]; exact h0))
          clear ho hB h0
          go_wp2
          go_quiet (fail)
          go_wp2
          go_roundw
          case rel => exact ⟨k + 1, by omega, by go_num, Y2, _, by first | rfl | exact Nat.add_assoc _ _ _⟩
          case measure => simp [intOf]; omega
        · have T1 : (bits BinOp.andNot IntKind.i64 X Y != 0) = true := by rw [hB]; exact bne_iff_ne.2 h0
          have N2 := Lib.hid (NO.out (fun h => h0 (by rw [HO.out]; exact h)))
          clear ho hB h0
          go_wp2
          go_quiet (fail)
          go_wp2
          go_ret
          exact ⟨ret_bool N2.out.symm, _, World.drewN_drewN _ _ _⟩
      · obtain rfl : k = N := by omega
        have Y2 := Lib.hid (finB_iff.2 ⟨HR.out, fun i hi => hd.out i (by rw [hn.out] at hi; exact hi)⟩)
        go_wp2
        go_ret
        exact ⟨ret_bool Y2.out.symm, nn, rfl⟩
theorem below_drewN (w : World) (n : Nat) : Below w.heap.size w (w.drewN n) := ⟨rfl, rfl, rfl, Nat.le_refl _, fun _ _ => rfl⟩
set_option maxRecDepth 100000 in
set_option maxHeartbeats 1000000 in
theorem agrees_is (a b : Option Addr) (N c M d : Nat) (xs ys : List Int) (r : Bool) (w : World) (H : Flg w) (h : LIn w a N c xs) (k : LIn w b M d ys) (hr : agrB xs ys = r) :
    Calls Tryd.prog 36 #[.slice a N c, .slice b M d] w fun e w' => e = .returned (.bool r) ∧ ∃ n, w' = w.drewN n := by
  subst hr
  have HH := Lib.hid H
  have HL := Lib.hid h
  have KL := Lib.hid k
  clear H h k
  obtain ⟨p, hp⟩ : ∃ p, xs.all pB = p := ⟨_, rfl⟩
  obtain ⟨q, hq⟩ : ∃ q, finB xs ys = q := ⟨_, rfl⟩
  have HP := Lib.hid hp
  have HQ := Lib.hid hq
  have e : agrB xs ys = (p && q) := by unfold agrB; rw [hp, hq]
  rw [e]
  clear hp hq e
  cases p
  · go_enter Tryd.func36, Tryd.ntmps36
    go_wp2_with fail
    refine (allHave_is 2 a N c xs _ _ HH.out (.inr rfl) HL.out HP.out).mono ?_; rintro e w' ⟨rfl, rfl⟩
    go_wp2
    go_ret
    exact ⟨rfl, 0, rfl⟩
  · go_enter Tryd.func36, Tryd.ntmps36
    go_wp2_with fail
    refine (allHave_is 2 a N c xs _ _ HH.out (.inr rfl) HL.out HP.out).mono ?_; rintro e w' ⟨rfl, rfl⟩
    go_wp2_with fail
    refine (finer_is a b N c M d xs ys q _ HH.out HL.out KL.out HQ.out).mono ?_; rintro e w' ⟨rfl, nn, rfl⟩
    cases q
    all_goals (
      go_wp2
      go_ret
      exact ⟨rfl, nn, rfl⟩)
end Go.Proofs.YtpobgdolhdlmeaaDoor.msk
