/- The walks of what makes a state within masks, and of what bends a list: Within, Bent. Condition: at most 64 elements. -/
import Derived.Test.YtpobgdolhdlmeaaDoorMkR
namespace Go.Proofs.YtpobgdolhdlmeaaDoor.msk
open Go.RowKit lex aggs kit net deck

/-- what Within leaves -/
def WtPost (w0 w : World) (la : Option Addr) (len cap bd N : Nat) (e : Ending) (w' : World) : Prop :=
  ∃ v S, e = .returned v ∧ OwnI w' w.heap.size v S ∧ S.length = N ∧ Game w0 w' bd la len cap ∧ w.grownBy w' (some bd)
set_option maxRecDepth 100000 in
set_option maxHeartbeats 4000000 in
theorem within_is {w0 w : World} {la : Option Addr} {len cap bd : Nat} {zs : List Int} (gm : Game w0 w bd la len cap) (hr : IsRow .i64 w0 la len cap zs) (a : Option Addr) (N c : Nat) (xs : List Int) (h : Kept w bd a N c xs) (h64 : N ≤ 64) :
    Calls Tryd.prog 13 #[.pointer (some ⟨bd, 0, none⟩), .slice a N c] w (WtPost w0 w la len cap bd N) := by
  obtain ⟨i0, hi, hz0, hz1, hz2⟩ := info_parts infoI
  have hn := Lib.hid h.1.len
  have n2 := h.1.cap
  have n3 := h.1.max
  unfold maxLen at n3
  have HK := Lib.hid h
  have HR := Lib.hid hr
  have hbd := gm.lt
  have hmn := gm.mine
  have G0 := Lib.hid gm
  clear h hr gm
  go_enter Tryd.func13, Tryd.ntmps13
  go_wp2
  go_loopw [5, 6] (fun v i wr => ∃ (k : Nat) (S : List Int), k ≤ N ∧ i = .int .i64 k ∧ S.length = k ∧ Hid (OwnI wr w.heap.size v S) ∧ Hid (Game w0 wr bd la len cap) ∧ Hid (w.grownBy wr (some bd))) (fun _ i _ => N - (intOf i).toNat)
  case atStart => exact ⟨0, [], Nat.zero_le _, rfl, rfl, AggsAt.nil _ _ _ _ _, G0.out, gb_refl _ _⟩
  case round =>
    obtain ⟨k, S, hk, rfl, hS, own, gmw, gb⟩ := hrel
    by_cases hlt : k < N
    · obtain ⟨g, o, rfl, -, hc⟩ := (HK.out.far gb.out).1.rin.some (by rw [hn.out]; omega)
      have c0 := cells_i hc k (by rw [hn.out]; exact hlt)
      generalize at0 xs k = x at c0
      have hSl := Lib.hid hS
      clear hc hS
      by_cases h12 : x = 1 ∨ x = 2
      · have own2 := Lib.hid (AggsAt.alloc own.out (.cells #[.int .i64 x] 3))
        have gm2 := Lib.hid (gmw.out.alloc (.cells #[.int .i64 x] 3))
        have gb2 : Hid (w.grownBy (wr.alloc (.cells #[.int .i64 x] 3)) (some bd)) := grown_alloc gb.out _
        have lt := fun q hq => (World.ownsRow.lt own2.out q hq).1
        have LT := Lib.hid lt
        clear own gmw gb lt
        rcases h12 with rfl | rfl
        all_goals (
          go_wp2_with (at_builtin; go_must (refine wpList_append_own _ rfl (.tmp 27) (.tmp 29) 22 rfl w.heap.size 3 i0 _ 1 8 Tryd.underlying22 hi hz0 hz1 hz2 rfl (by decide) u5 S.length (flat encI S) rfl own2.out _ 1 1 (encI _) rfl rfl (cell_newI _ _ rfl _ _) (encI_one _) (by rw [hSl.out]; unfold maxLen; omega) (by rw [hSl.out]; omega) gb2.out.size ?_))
          intro v' w5 hown' hgrow hnil'
          have NU : Hid (OwnI w5 w.heap.size v' (S ++ [_])) := AggsAt.push hown'
          have NG : Hid (w.grownBy w5 (some bd)) := gb_new_row gb2.out hgrow (fun q hq => LT.out q hq)
          have NM := Lib.hid (gm2.out.grown hgrow (fun e => by have := LT.out _ e.symm; omega) (fun q hq => by have := LT.out q hq; omega))
          clear hown' hgrow hnil' own2 gb2 gm2
          go_wp2
          go_roundw
          case rel => exact ⟨k + 1, S ++ [_], by omega, by go_num, by rw [List.length_append, hSl.out]; rfl, NU, NM, NG⟩
          case measure => simp [intOf]; omega)
      · have T1 : (x != 1) = true := bne_iff_ne.2 (by omega)
        have T2 : (x != 2) = true := bne_iff_ne.2 (by omega)
        clear h12
        go_wp2_with fail
        refine (gmw.out.next HR.out 2 (by omega)).mono ?_; rintro e w4 ⟨r, rfl, r0, r1, gm4, gb4⟩
        have own2 := Lib.hid (AggsAt.alloc (AggsAt.grown own.out gb4 (fun j hj => by cases hj; exact hbd)) (.cells #[.int .i64 (1 + r)] 3))
        have gm2 := Lib.hid (gm4.alloc (.cells #[.int .i64 (1 + r)] 3))
        have gb2 : Hid (w.grownBy (w4.alloc (.cells #[.int .i64 (1 + r)] 3)) (some bd)) := grown_alloc (gb_tr gb.out gb4) _
        have LT := Lib.hid (fun q hq => (World.ownsRow.lt own2.out q hq).1)
        clear own gmw gb gm4 gb4 c0
        go_wp2_with (at_builtin; go_must (refine wpList_append_own _ rfl (.tmp 27) (.tmp 29) 22 rfl w.heap.size 3 i0 _ 1 8 Tryd.underlying22 hi hz0 hz1 hz2 rfl (by decide) u5 S.length (flat encI S) rfl own2.out _ 1 1 (encI _) rfl rfl (cell_newI _ _ rfl _ _) (encI_one _) (by rw [hSl.out]; unfold maxLen; omega) (by rw [hSl.out]; omega) gb2.out.size ?_))
        intro v' w5 hown' hgrow hnil'
        have NU : Hid (OwnI w5 w.heap.size v' (S ++ [_])) := AggsAt.push hown'
        have NG : Hid (w.grownBy w5 (some bd)) := gb_new_row gb2.out hgrow (fun q hq => LT.out q hq)
        have NM := Lib.hid (gm2.out.grown hgrow (fun e => by have := LT.out _ e.symm; omega) (fun q hq => by have := LT.out q hq; omega))
        clear hown' hgrow hnil' own2 gb2 gm2
        go_wp2
        go_roundw
        case rel => exact ⟨k + 1, S ++ [_], by omega, by go_num, by rw [List.length_append, hSl.out]; rfl, NU, NM, NG⟩
        case measure => simp [intOf]; omega
    · obtain rfl : k = N := by omega
      go_wp2
      go_ret
      exact ⟨_, S, rfl, own.out, hS, gmw.out, gb.out⟩
/-- what Bent leaves: a list that can be read, apart from the deck -/
def BtPost (w0 w : World) (la : Option Addr) (len cap bd N : Nat) (e : Ending) (w' : World) : Prop :=
  ∃ a L c S, e = .returned (.slice a L c) ∧ Kept w' bd a L c S ∧ L ≤ N + 1 ∧ Game w0 w' bd la len cap ∧ w.grownBy w' (some bd)
theorem OwnI.kept2 {W : World} {base bd L c : Nat} {a : Option Addr} {xs : List Int} (h : OwnI W base (.slice a L c) xs) (hb : bd < base) : Kept W bd a L c xs := by
  obtain ⟨a', c', e, k⟩ := h.kept hb
  cases e; exact k
/-- the list without its first element -/
theorem Kept.tail {W : World} {bd g L c : Nat} {xs : List Int} (h : Kept W bd (some ⟨g, 0, none⟩) L c xs) (hL : 1 ≤ L) : Kept W bd (some ⟨g, 1, none⟩) (L - 1) (c - 1) (xs.drop 1) := by
  obtain ⟨hl, hp⟩ := h
  obtain ⟨b, off, e, hg, hc⟩ := hl.rin.some (by rw [hl.len]; omega)
  cases e
  have hlen := hl.len
  refine ⟨⟨by rw [List.length_drop, hl.len], by have := hl.cap; omega, by have := hl.max; omega, .inr ⟨g, 1, rfl, hg, fun i u hu => ?_⟩, fun h => by cases h⟩, fun p _ hq => by cases hq; exact (show g ≠ bd from hp ⟨g, 0, none⟩ (by omega) rfl)⟩
  have hi := (List.getElem?_eq_some_iff.1 hu).1
  rw [flat_length encI_len, Nat.mul_one] at hi
  have e1 := flat_get encI_len (xs.drop 1) i hi 0 (by decide)
  rw [Nat.mul_one, Nat.add_zero, hu] at e1
  have e2 : u = .int .i64 (xs.drop 1)[i] := by simpa [encI] using e1
  have e3 := cells_i hc (i + 1) (by rw [List.length_drop] at hi; omega)
  rw [Nat.zero_add] at e3
  rw [Nat.add_comm, e3, e2, at0_get (by rw [List.length_drop] at hi; omega), List.getElem_drop]
  simp [Nat.add_comm]
set_option maxRecDepth 100000 in
set_option maxHeartbeats 8000000 in
theorem bent_is {w0 w : World} {la : Option Addr} {len cap bd : Nat} {zs : List Int} (gm : Game w0 w bd la len cap) (hr : IsRow .i64 w0 la len cap zs) (a b : Option Addr) (N c V d : Nat) (xs vs : List Int) (h : Kept w bd a N c xs) (hv : Kept w bd b V d vs) (h64 : N ≤ 64) (hN1 : 1 ≤ N) (hV : 1 ≤ V) (hV2 : V ≤ 64) :
    Calls Tryd.prog 14 #[.pointer (some ⟨bd, 0, none⟩), .slice a N c, .slice b V d] w (BtPost w0 w la len cap bd N) := by
  obtain ⟨i0, hi, hz0, hz1, hz2⟩ := info_parts infoI
  have hn := Lib.hid h.1.len
  have hvn := Lib.hid hv.1.len
  have n2 := h.1.cap
  have n3 := h.1.max
  have m2 := hv.1.cap
  have m3 := hv.1.max
  unfold maxLen at n3 m3
  have HL := Lib.hid h.1
  have KV := Lib.hid hv
  have HR := Lib.hid hr
  have hbd := gm.lt
  have hmn := gm.mine
  have G0 := Lib.hid gm
  clear h hv hr gm
  go_enter Tryd.func14, Tryd.ntmps14
  have T0 : ((N : Int) == 0) = false := beq_eq_false_iff_ne.2 (by omega)
  go_wp2_with (first
    | (at_builtin; refine wpList_append_lin rfl (.tmp 8) rfl rfl HL.out (by omega) ?_; intro a2 c2 w2 own2 gr2; have OWN2 := Lib.hid own2; have GR2 := Lib.hid gr2; clear own2 gr2))
  have B2 := Lib.hid ((Below.refl w.heap.size w).grown GR2.out (Nat.le_refl _) (fun k hk => by cases hk))
  have G2 := Lib.hid (G0.out.by_below B2.out)
  have GB2 := Lib.hid (gb_bl B2.out (some bd))
  refine (one_is G2.out HR.out 5 (by decide)).mono ?_; rintro e w3 ⟨r1, rfl, gm3, gb3⟩
  have G3 := Lib.hid gm3
  have GB3 := Lib.hid (gb_tr GB2.out gb3)
  have OWN3 := Lib.hid (AggsAt.grown OWN2.out gb3 (fun j hj => by cases hj; exact hbd))
  obtain ⟨g, rfl, hSl, hbg, -, -, hc2m, -⟩ := OwnI.some OWN3.out (by omega)
  unfold maxLen at hc2m
  clear gm3 gb3 OWN2 G2 GB2 B2 GR2
  cases r1
  · go_wp2_with fail
    refine (one_is G3.out HR.out 4 (by decide)).mono ?_; rintro e w4 ⟨r2, rfl, gm4, gb4⟩
    have G4 := Lib.hid gm4
    have GB4 := Lib.hid (gb_tr GB3.out gb4)
    have OWN4 := Lib.hid (AggsAt.grown OWN3.out gb4 (fun j hj => by cases hj; exact hbd))
    clear gm4 gb4 G3 GB3 OWN3
    cases r2
    · go_wp2_with fail
      refine (G4.out.next HR.out (N : Int) (by omega)).mono ?_; rintro e w5 ⟨q, rfl, q0, q1, gm5, gb5⟩
      have G5 := Lib.hid gm5
      have GB5 := Lib.hid (gb_tr GB4.out gb5)
      have OWN5 := Lib.hid (AggsAt.grown OWN4.out gb5 (fun j hj => by cases hj; exact hbd))
      clear gm5 gb5 G4 GB4 OWN4
      go_wp2_with fail
      refine (G5.out.next HR.out (V : Int) (by omega)).mono ?_; rintro e w6 ⟨t, rfl, t0, t1, gm6, gb6⟩
      have G6 := Lib.hid gm6
      have GB6 := Lib.hid (gb_tr GB5.out gb6)
      have OWN6 := Lib.hid (AggsAt.grown OWN5.out gb6 (fun j hj => by cases hj; exact hbd))
      obtain ⟨q, rfl⟩ : ∃ z : Nat, q = z := ⟨q.toNat, by omega⟩
      obtain ⟨t, rfl⟩ : ∃ z : Nat, t = z := ⟨t.toNat, by omega⟩
      have hq : q < N := by omega
      have ht : t < V := by omega
      obtain ⟨g2, o2, rfl, -, hcv⟩ := (KV.out.far GB6.out).1.rin.some (by rw [hvn.out]; omega)
      have c0 := cells_i hcv t (by rw [hvn.out]; exact ht)
      obtain ⟨g', e, -, -, -, -, -, hcell⟩ := OwnI.some OWN6.out (by omega)
      cases e
      obtain ⟨c1, f1⟩ := hcell q hq
      generalize at0 vs t = x at c0
      have st := OwnI.set OWN6.out hSl q hq x
      have NO := Lib.hid (OwnI.kept2 st.1 (bd := bd) (by omega))
      have NM := Lib.hid (G6.out.grown st.2 (fun e => by injection e; omega) (fun j hj => by cases hj; omega))
      have NG := Lib.hid (gb_new_row GB6.out st.2 (fun j hj => by cases hj; exact hbg))
      clear st hcell hcv gm6 gb6 G5 GB5 OWN5 q0 q1 t0 t1
      go_wp2
      go_ret
      exact ⟨_, _, _, _, rfl, NO.out, by omega, NM.out, NG.out⟩
    · have NO := Lib.hid (OwnI.kept2 OWN4.out (bd := bd) (by omega))
      have TL := Lib.hid (NO.out.tail hN1)
      have hnn := NO.out.1.cap
      by_cases hc1 : c2 = 1
      · subst hc1
        obtain rfl : N = 1 := by omega
        go_wp2
        go_ret
        refine ⟨_, _, _, [], rfl, ⟨⟨rfl, ?_, ?_, .inl rfl, fun h => by cases h⟩, fun p hp _ => absurd hp (by omega)⟩, by omega, G4.out, GB4.out⟩
        · omega
        · decide
      · have hc1' : ¬ 1 = c2 := fun e => hc1 e.symm
        have hNi : (1 : Int) ≤ (N : Int) := by omega
        have hci : (N : Int) ≤ (c2 : Int) := by omega
        go_wp2
        go_ret
        exact ⟨_, _, _, _, rfl, TL.out, by omega, G4.out, GB4.out⟩
  · go_wp2_with fail
    refine (G3.out.next HR.out (V : Int) (by omega)).mono ?_; rintro e w4 ⟨t, rfl, t0, t1, gm4, gb4⟩
    have G4 := Lib.hid gm4
    have GB4 := Lib.hid (gb_tr GB3.out gb4)
    have OWN4 := Lib.hid (AggsAt.grown OWN3.out gb4 (fun j hj => by cases hj; exact hbd))
    obtain ⟨t, rfl⟩ : ∃ z : Nat, t = z := ⟨t.toNat, by omega⟩
    have ht : t < V := by omega
    obtain ⟨g2, o2, rfl, -, hcv⟩ := (KV.out.far GB4.out).1.rin.some (by rw [hvn.out]; omega)
    have c0 := cells_i hcv t (by rw [hvn.out]; exact ht)
    generalize at0 vs t = x at c0
    have own5 := Lib.hid (AggsAt.alloc OWN4.out (.cells #[.int .i64 x] 3))
    have G5 := Lib.hid (G4.out.alloc (.cells #[.int .i64 x] 3))
    have GB5 : Hid (w.grownBy (w4.alloc (.cells #[.int .i64 x] 3)) (some bd)) := grown_alloc GB4.out _
    have LT := Lib.hid (fun q hq => (World.ownsRow.lt own5.out q hq).1)
    have HSL := Lib.hid hSl
    clear hcv gm4 gb4 G3 GB3 OWN3 t0 t1 hSl
    go_wp2_with (at_builtin; go_must (refine wpList_append_own _ rfl (.tmp 17) (.tmp 25) 22 rfl w.heap.size 3 i0 _ 1 8 Tryd.underlying22 hi hz0 hz1 hz2 rfl (by decide) (.slice (some ⟨g, 0, none⟩) N c2) xs.length (flat encI xs) rfl own5.out _ 1 1 (encI x) rfl rfl (cell_newI _ _ rfl _ _) (encI_one _) (by rw [HSL.out]; unfold maxLen; omega) (by rw [HSL.out]; omega) GB5.out.size ?_))
    intro v' w5 hown' hgrow hnil'
    have NU : Hid (OwnI w5 w.heap.size v' (xs ++ [x])) := AggsAt.push (by rw [HSL.out] at hown' ⊢; exact hown')
    have NG := Lib.hid (gb_new_row GB5.out hgrow (fun q hq => LT.out q hq))
    have NM := Lib.hid (G5.out.grown hgrow (fun e => by have := LT.out _ e.symm; omega) (fun q hq => by have := LT.out q hq; omega))
    obtain ⟨a6, c6, rfl, k6⟩ := OwnI.kept NU.out (bd := bd) hbd
    have K6 := Lib.hid k6
    have hl6 : (xs ++ [x]).length = N + 1 := by rw [List.length_append, HSL.out]; rfl
    rw [hl6] at K6 ⊢
    clear hown' hgrow hnil' own5 G5 GB5 k6 hl6 NU
    go_wp2
    go_ret
    exact ⟨_, _, _, _, rfl, K6.out, Nat.le_refl _, NM.out, NG.out⟩
end Go.Proofs.YtpobgdolhdlmeaaDoor.msk
