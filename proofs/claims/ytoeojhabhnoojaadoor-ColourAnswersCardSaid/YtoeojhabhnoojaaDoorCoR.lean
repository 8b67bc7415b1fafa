/- The walk of layer 7's reference: Parts. It computes what the plain facts say. No condition. -/
import Derived.Test.YtoeojhabhnoojaaDoorCoE
import Derived.Test.YtoeojhabhnoojaaDoorMkRp
import Derived.BigRegion
namespace Go.Proofs.YtoeojhabhnoojaaDoor.col
open Go.RowKit Go.Maps lex aggs kit net deck msk

/-- the sum of the first n ints of a block -/
def smW (w : World) (z : Nat) : Nat → Nat
  | 0 => 0
  | n + 1 => smW w z n + match w.cell? ⟨z, n, none⟩ with
    | some (.int _ x) => x.toNat
    | _ => 0
theorem smW_is {w : World} {z N : Nat} {f : Nat → Int} (h : ∀ i, i < N → w.cell? ⟨z, i, none⟩ = some (.int .i64 (f i))) : ∀ n, n ≤ N → smW w z n = sm f n := by
  intro n
  induction n with
  | zero => intro _; rfl
  | succ n ih => intro hn; rw [smW, sm, ih (by omega), h n (by omega)]
def chN : Value → Nat
  | .bool true => 1
  | _ => 0
def ch1 (ch : Bool) : Nat := if ch = true then 1 else 0
theorem chN_is (ch : Bool) : chN (.bool ch) = ch1 ch := by cases ch <;> rfl
/-- no closed device before j joins nodes of two numbers -/
def Fx (ds : List Dv) (S o : List Int) (j : Nat) : Prop := ∀ i, i < j → edge ds S i = true → at0 o (dA ds i) = at0 o (dB ds i)
theorem Fx.no {ds : List Dv} {S o : List Int} {j : Nat} (h : Fx ds S o j) (he : edge ds S j = false) : Fx ds S o (j + 1) := fun i hi e => by
  by_cases h1 : i = j
  · subst h1; rw [he] at e; cases e
  · exact h i (by omega) e
theorem Fx.eq {ds : List Dv} {S o : List Int} {j : Nat} (h : Fx ds S o j) (he : at0 o (dA ds j) = at0 o (dB ds j)) : Fx ds S o (j + 1) := fun i hi e => by
  by_cases h1 : i = j
  · subst h1; exact he
  · exact h i (by omega) e
/-- the first k numbers -/
def idL (N k : Nat) : List Int := prL ((List.range N).map fun (v : Nat) => (v : Int)) k
theorem own_cells {w : World} {base sb N : Nat} {xs : List Int} (h : OwnI w base (.slice (some ⟨sb, 0, none⟩) N N) xs) (hN : xs.length = N) (i : Nat) (hi : i < N) : w.cell? ⟨sb, i, none⟩ = some (.int .i64 (at0 xs i)) ∧ w.frozen? ⟨sb, i, none⟩ = false := by
  obtain ⟨g, e, -, -, -, -, -, hc⟩ := h.some (by omega)
  cases e
  exact hc i hi
set_option maxRecDepth 100000 in
set_option maxHeartbeats 8000000 in
theorem rParts_is (a b l : Option Addr) (N c M d L k : Nat) (ns : List Nd) (ds : List Dv) (xs : List Int) (E : Int) (w : World) (h : NetIn w a b N c M d ns ds) (hx : LIn w l L k xs) (hE : chkM 2 ns ds xs = E) :
    Calls Tryd.prog 17 #[.agg #[.slice a N c, .slice b M d], .slice l L k] w (LsPost w (ptL ds xs N) E) := by
  have bx := below_box w (.cells #[.slice a N c, .slice b M d] 26)
  have NT := NtAt.new w (.slice a N c) (.slice b M d) 26
  have BX := Lib.hid bx
  have S1 := Lib.hid (rState_is a b l N c M d L k ns ds xs E _ (h.below bx) (hx.below bx) hE)
  have hsz : (w.alloc (.cells #[.slice a N c, .slice b M d] 26)).heap.size = w.heap.size + 1 := by simp
  have SZ := Lib.hid hsz
  have HN := Lib.hid (fun wr (b : Below w.heap.size w wr) => h.below b)
  have HX := Lib.hid (fun wr (b : Below w.heap.size w wr) => hx.below b)
  have HE := Lib.hid hE
  have hlx := h.dlen
  have hll := hx.len
  have hln := h.nlen
  have n1 := h.ncap
  have n2 := h.nmax
  have n3 := h.dcap
  have n4 := h.dmax
  have n5 := hx.cap
  have n6 := hx.max
  unfold maxLen at n2 n4 n6
  obtain ⟨c0, c1, hlt⟩ := NT
  clear h hx bx hE hsz
  go_enter Tryd.func17, Tryd.ntmps17
  go_wp2_with fail
  generalize w.alloc (.cells #[.slice a N c, .slice b M d] 26) = W1 at *
  refine S1.out.mono ?_
  rintro e w2 ⟨rfl, b2⟩
  have k0 := (b2.cell (p := ⟨w.heap.size, 0, none⟩) hlt).trans c0
  have k1 := (b2.cell (p := ⟨w.heap.size, 1, none⟩) hlt).trans c1
  have B2 := Lib.hid (BX.out.trans (b2.mono (by have := SZ.out; omega)))
  have hw2 := b2.size
  rw [SZ.out] at hw2
  clear c0 c1 b2 S1 hlt
  by_cases e0 : E = 0
  · subst e0
    obtain ⟨q1, q2, -⟩ := chkM_zero HE.out
    obtain ⟨hN, hM⟩ := chk_small q1
    rw [hln] at hN
    rw [hlx] at hM
    have hLM : L = M := by rw [← hll, ← hlx, q2]
    subst hLM
    have IT := Lib.hid (fun i hi => by have := chk_its q1 i hi; rwa [hln] at this)
    have hdl := Lib.hid hlx
    have hxl := Lib.hid hll
    have hmk := msk.make_ints N (by omega) w2
    have O0 := OwnI.made w2 N (by unfold maxLen; omega)
    have bz := below_box w2 (.cells (madeCells #[.int .i64 0] N) 3)
    obtain ⟨sb, hsb⟩ : ∃ s, w2.heap.size = s := ⟨_, rfl⟩
    obtain ⟨w4, hw4⟩ : ∃ w4, w2.alloc (.cells (madeCells #[.int .i64 0] N) 3) = w4 := ⟨_, rfl⟩
    have B4 := Lib.hid (B2.out.trans (bz.mono B2.out.size))
    have z4 : w4.heap.size = sb + 1 := by rw [← hw4]; simp; exact hsb
    have NO4 := Lib.hid (NetIn.nf (HN.out _ B2.out) (k := sb) (by omega))
    have XO4 := Lib.hid (fun hp => LIn.off (HX.out _ B2.out) (k := sb) (by omega) hp)
    have m0 := (bz.cell (p := ⟨w.heap.size, 0, none⟩) (by show w.heap.size < _; omega)).trans k0
    have m1 := (bz.cell (p := ⟨w.heap.size, 1, none⟩) (by show w.heap.size < _; omega)).trans k1
    rw [hw4, hsb] at hmk O0
    rw [hw4] at B4 m0 m1
    have O0 := Lib.hid O0
    have Z4 := Lib.hid z4
    have M1 := Lib.hid m1
    rw [hsb] at hw2
    have hid : ((List.range N).map fun (v : Nat) => (v : Int)).length = N := by simp
    have HID := Lib.hid hid
    clear bz z4 hsb q1 q2 HE
    go_wp2_with fail
    clear hmk hw4 k0 k1 m0 m1
    go_loopw [8] (fun i wr => ∃ v : Nat, v ≤ N ∧ i = .int .i64 v ∧ Hid (OwnI wr sb (.slice (some ⟨sb, 0, none⟩) N N) (idL N v)) ∧ Hid (w4.grownBy wr (some sb))) (fun i _ => N - (intOf i).toNat)
    case atStart => exact ⟨0, Nat.zero_le _, rfl, by show OwnI _ _ _ _; unfold idL; rw [prL_zero hid]; exact O0.out, gb_refl _ _⟩
    case round =>
      clear O0
      obtain ⟨v, hv, rfl, own, gb⟩ := hrel
      by_cases hlt : v < N
      · obtain ⟨g3, e3, hlen, -, -, -, -, hcell⟩ := own.out.some (by omega)
        cases e3
        obtain ⟨c2, f2⟩ := hcell v hlt
        have st := own.out.set hlen v hlt (v : Int)
        unfold idL at st
        rw [prL_step (by rw [HID.out]; exact hlt) (at0_map _ hlt)] at st
        have NU : Hid (OwnI (wr.setCell ⟨sb, v, none⟩ (.int .i64 (v : Int))) sb (.slice (some ⟨sb, 0, none⟩) N N) (idL N (v + 1))) := st.1
        have NG := Lib.hid (gb_tr gb.out st.2)
        clear st hcell own gb hlen hid
        go_wp2
        go_roundw
        case rel => exact ⟨v + 1, by omega, by go_num, NU, NG⟩
        case measure => simp [intOf]; omega
      · obtain rfl : v = N := by omega
        have OWN : Hid (OwnI wr sb (.slice (some ⟨sb, 0, none⟩) v v) ((List.range v).map fun (i : Nat) => (i : Int))) := by
          show OwnI _ _ _ _
          have := own.out
          unfold idL at this
          rwa [prL_end HID.out] at this
        have RS := Lib.hid (RIt.start ds xs v _ HID.out (fun u hu => at0_map (fun (i : Nat) => (i : Int)) hu))
        have G0 := Lib.hid gb.out
        clear own gb hid
        go_wp2_with fail
        go_loopw [9] (fun x wr => ∃ (ch : Bool) (o : List Int), x = .bool ch ∧ Hid (OwnI wr sb (.slice (some ⟨sb, 0, none⟩) v v) o) ∧ Hid (RIt ds xs v o) ∧ Hid (ch = false → Fx ds xs o ds.length) ∧ Hid (w4.grownBy wr (some sb))) (fun x wr => smW wr sb v + chN x)
        case atStart => exact ⟨true, _, rfl, OWN, RS, (fun h => by cases h), G0⟩
        case round =>
          clear OWN RS G0 HID
          obtain ⟨ch, o0, rfl, own, rit, fx, gb⟩ := hrel
          cases ch
          · have DN := Lib.hid (rit.out.done (fun i hi he => by
              have hk := of_decide_eq_true (edge_iff.1 he).2
              obtain ⟨p1, p2⟩ := itsB_parts (IT.out i hi)
              unfold dK at hk
              unfold dA dB
              omega) (fun i hi he => fx.out rfl i hi he))
            have FIN : Hid (OwnI wr w.heap.size (.slice (some ⟨sb, 0, none⟩) v v) (ptL ds xs v)) := by
              show OwnI _ _ _ _
              rw [← DN.out]
              exact AggsAt.mono own.out (by omega)
            have FB := Lib.hid (B4.out.grown gb.out B4.out.size (fun q hq => by cases hq; omega))
            go_wp2
            go_ret2
            exact ⟨_, rfl, by rw [if_pos rfl]; exact FIN.out, FB.out⟩
          · have P0 := Lib.hid (smW_is (f := at0 o0) (fun i hi => (own_cells own.out rit.out.len i hi).1) v (Nat.le_refl _))
            clear fx
            go_wp2_with fail
            go_loopw [9, 10] (fun x i wr => ∃ (j : Nat) (ch : Bool) (o : List Int), j ≤ L ∧ x = .bool ch ∧ i = .int .i64 j ∧ Hid (OwnI wr sb (.slice (some ⟨sb, 0, none⟩) v v) o) ∧ Hid (RIt ds xs v o) ∧ Hid (ch = false → Fx ds xs o j) ∧ Hid (sm (at0 o) v + ch1 ch ≤ sm (at0 o0) v) ∧ Hid (w4.grownBy wr (some sb))) (fun _ i _ => L - (intOf i).toNat)
            case atStart => exact ⟨0, false, o0, Nat.zero_le _, rfl, rfl, own, rit, fun _ i hi => absurd hi (Nat.not_lt_zero i), by show _ ≤ _; unfold ch1; simp, gb⟩
            case round =>
              clear own rit gb
              obtain ⟨j, ch, o, hj, rfl, rfl, own, rit, fx, pot, gb⟩ := hrel
              have m1 := gb.out.cell M1.out (by show some w.heap.size ≠ some sb; simp; omega)
              by_cases hlt : j < L
              · have hjd : j < ds.length := by rw [hdl.out]; exact hlt
                have hjx : j < xs.length := by rw [hxl.out]; exact hlt
                have NIw := NF.keep ⟨HN.out _ B4.out, NO4.out⟩ gb.out
                have LIw := (HX.out _ B4.out).grown gb.out XO4.out
                obtain ⟨g, q, hbe, hg, hcd⟩ := NIw.din.some (by omega)
                obtain ⟨g2, q2, hle, hg2, hcl⟩ := LIw.rin.some (by omega)
                obtain ⟨c0, c1, c2, c3, c4⟩ := cells_dv hcd j hjd
                have s0 := cells_i hcl j hjx
                have it := IT.out j hjd
                obtain ⟨e1, e2, e3⟩ := dev_at hjd
                have e4 : ds.getD j default = ds[j] := by simp [List.getD_eq_getElem?_getD, hjd]
                rw [e4] at it
                obtain ⟨xd, hxd⟩ : ∃ x, ds[j] = x := ⟨_, rfl⟩
                obtain ⟨x, hx⟩ : ∃ x, at0 xs j = x := ⟨_, rfl⟩
                rw [hxd] at c0 c1 c2 c3 c4 e1 e2 e3 it
                rw [hx] at s0
                obtain ⟨nm, ki, da, db, co⟩ := xd
                dsimp only at c0 c1 c2 c3 c4 e1 e2 e3
                obtain ⟨⟨a0, a1⟩, hb⟩ := itsB_parts it
                simp only at a0 a1 hb
                obtain ⟨p, hp⟩ : ∃ p : Nat, da = p := ⟨da.toNat, by omega⟩
                subst hp
                rw [Int.toNat_natCast] at e2
                have hpN : p < v := by omega
                have EQ := Lib.hid (edge_eq hx e1)
                have bb := below_box wr (.cells #[.string nm, .int .i64 ki, .int .i64 (p : Int), .int .i64 db, .int .i64 co] 57)
                rw [← bb.cell (p := ⟨g2, q2 + j, none⟩) hg2] at s0
                have own2 : Hid (OwnI (wr.alloc (.cells #[.string nm, .int .i64 ki, .int .i64 (p : Int), .int .i64 db, .int .i64 co] 57)) sb (.slice (some ⟨sb, 0, none⟩) v v) o) := AggsAt.alloc own.out (.cells #[.string nm, .int .i64 ki, .int .i64 (p : Int), .int .i64 db, .int .i64 co] 57)
                have gb2 : Hid (w4.grownBy (wr.alloc (.cells #[.string nm, .int .i64 ki, .int .i64 (p : Int), .int .i64 db, .int .i64 co] 57)) (some sb)) := grown_alloc gb.out _
                subst hbe
                subst hle
                clear hcd hcl NIw LIw hxd hx hg hg2 e4 own a0 a1 it bb hjx
                by_cases h2 : x = 2
                · subst h2
                  by_cases hk : 1 ≤ ki ∧ ki ≤ 3
                  · have J := Lib.hid (fun W => rjoins_is ki true (decide_eq_true hk) W)
                    obtain ⟨r, hr⟩ : ∃ r : Nat, db = r := ⟨db.toNat, by omega⟩
                    subst hr
                    rw [Int.toNat_natCast] at e3
                    have hrN : r < v := by omega
                    have hed : edge ds xs j = true := by rw [EQ.out, decide_eq_true hk]; rfl
                    have ra := (own_cells own2.out rit.out.len p hpN).1
                    have rb := (own_cells own2.out rit.out.len r hrN).1
                    have FE := Lib.hid (fun (h : ch = false → Fx ds xs o j) (e : at0 o p = at0 o r) (hc : ch = false) => (h hc).eq (by rw [e2, e3]; exact e))
                    have ST := Lib.hid (fun X Y (hX : at0 o p = X) (hY : at0 o r = Y) hne => rit.out.step hjd hed e2 e3 hpN hrN hX hY hne)
                    obtain ⟨X, hX⟩ : ∃ X, at0 o p = X := ⟨_, rfl⟩
                    obtain ⟨Y, hY⟩ : ∃ Y, at0 o r = Y := ⟨_, rfl⟩
                    rw [hX] at ra
                    rw [hY] at rb
                    have HXo := Lib.hid hX
                    have HYo := Lib.hid hY
                    have T1 : ((2 : Int) != 2) = false := by decide
                    clear hX hY hed hb hk e1 e2 e3 EQ hjd
                    by_cases hxy : X = Y
                    · have NX := Lib.hid (FE.out fx.out (by rw [HXo.out, HYo.out, hxy]))
                      have T2 : (X == Y) = true := by rw [hxy]; exact beq_self_eq_true _
                      clear hxy ST fx
                      go_wp2_with fail
                      go_quiet ((go_at_call 30; exact Calls.quiet_of_same ((J.out _).mono fun _ _ h => ⟨h.1, h.2.symm⟩)))
                      have OWd : ∀ n, Hid (OwnI ((wr.alloc (.cells #[.string nm, .int .i64 ki, .int .i64 (p : Int), .int .i64 (r : Int), .int .i64 co] 57)).drewN n) sb (.slice (some ⟨sb, 0, none⟩) v v) o) := fun n => own2.out
                      have GBd : ∀ n, Hid (w4.grownBy ((wr.alloc (.cells #[.string nm, .int .i64 ki, .int .i64 (p : Int), .int .i64 (r : Int), .int .i64 co] 57)).drewN n) (some sb)) := fun n => gb_drewN n gb2.out
                      go_wp2
                      go_roundw
                      case rel => exact ⟨j + 1, ch, o, by omega, rfl, by go_num, OWd _, rit, NX, pot, GBd _⟩
                      case measure => simp [intOf]; omega
                    · have T2 : (X == Y) = false := beq_eq_false_iff_ne.2 hxy
                      obtain ⟨NR, NS⟩ := ST.out X Y HXo.out HYo.out hxy
                      obtain ⟨m, hm⟩ : ∃ m, min X Y = m := ⟨_, rfl⟩
                      have hif : (if Y < X then Y else X) = m := by rw [← hm]; split <;> omega
                      rw [hm] at NR NS
                      have NRH := Lib.hid NR
                      have NSH := Lib.hid NS
                      have hpr : p ≠ r := fun e => by subst e; exact hxy (by rw [← HXo.out, ← HYo.out])
                      clear NR NS ST FE fx hm
                      go_wp2_with fail
                      go_quiet ((go_at_call 30; exact Calls.quiet_of_same ((J.out _).mono fun _ _ h => ⟨h.1, h.2.symm⟩)))
                      rename_i nq
                      have own3 : Hid (OwnI ((wr.alloc (.cells #[.string nm, .int .i64 ki, .int .i64 (p : Int), .int .i64 (r : Int), .int .i64 co] 57)).drewN nq) sb (.slice (some ⟨sb, 0, none⟩) v v) o) := own2.out
                      have gb3 : Hid (w4.grownBy ((wr.alloc (.cells #[.string nm, .int .i64 ki, .int .i64 (p : Int), .int .i64 (r : Int), .int .i64 co] 57)).drewN nq) (some sb)) := gb_drewN nq gb2.out
                      obtain ⟨-, -, v2, v3, -, -⟩ : DvAt ((wr.alloc (.cells #[.string nm, .int .i64 ki, .int .i64 (p : Int), .int .i64 (r : Int), .int .i64 co] 57)).drewN nq) wr.heap.size ⟨nm, ki, p, r, co⟩ := DvAt.new wr ⟨nm, ki, p, r, co⟩ 57
                      dsimp only at v2 v3
                      generalize hgd : wr.heap.size = gd at *
                      have hds : gd ≠ sb := by have := gb.out.size; have := Z4.out; omega
                      generalize (wr.alloc (.cells #[.string nm, .int .i64 ki, .int .i64 (p : Int), .int .i64 (r : Int), .int .i64 co] 57)).drewN nq = Z at *
                      clear ra rb own2 gb2 s0
                      have ra := (own_cells own3.out rit.out.len p hpN).1
                      have rb := (own_cells own3.out rit.out.len r hrN).1
                      rw [HXo.out] at ra
                      rw [HYo.out] at rb
                      go_wp2_with fail
                      go_quiet (fail)
                      have own4 : Hid (OwnI (Z.drewN nq) sb (.slice (some ⟨sb, 0, none⟩) v v) o) := own3.out
                      have gb4 : Hid (w4.grownBy (Z.drewN nq) (some sb)) := gb_drewN nq gb3.out
                      replace v2 : (Z.drewN nq).cell? ⟨gd, 2, none⟩ = _ := v2
                      replace v3 : (Z.drewN nq).cell? ⟨gd, 3, none⟩ = _ := v3
                      clear ra rb own3 gb3
                      generalize Z.drewN nq = Y4 at *
                      obtain ⟨ra, fa⟩ := own_cells own4.out rit.out.len p hpN
                      obtain ⟨rb, fb⟩ := own_cells own4.out rit.out.len r hrN
                      have s1 := own4.out.set rit.out.len p hpN m
                      have s2 := OwnI.set s1.1 (by rw [List.length_set]; exact rit.out.len) r hrN m
                      have g2' := gb_tr s1.2 s2.2
                      have v3' := s1.2.cell v3 (by show some gd ≠ some sb; simp; omega)
                      have v2' := s1.2.cell v2 (by show some gd ≠ some sb; simp; omega)
                      have NU := Lib.hid s2.1
                      have NG := Lib.hid (gb_tr gb4.out g2')
                      clear s1 s2 g2' own4 gb4 hif
                      go_wp2_with fail
                      go_region
                      have NP : Hid (sm (at0 ((o.set p m).set r m)) v + ch1 true ≤ sm (at0 o0) v) := by
                        have h1 := NSH.out
                        have h2 := pot.out
                        show _ ≤ _
                        unfold ch1 at h2 ⊢
                        rw [if_pos rfl]
                        split at h2 <;> omega
                      have NV := Lib.hid (show OwnI ((Y4.setCell ⟨sb, p, none⟩ (.int .i64 m)).setCell ⟨sb, r, none⟩ (.int .i64 m)).drew sb (.slice (some ⟨sb, 0, none⟩) v v) ((o.set p m).set r m) from NU.out)
                      go_wp2
                      go_roundw
                      case rel => exact ⟨j + 1, true, _, by omega, rfl, by go_num, NV, NRH, (fun h => by cases h), NP, gb_drew NG.out⟩
                      case measure => simp [intOf]; omega
                  · have J := Lib.hid (fun W => rjoins_is ki false (decide_eq_false hk) W)
                    have T1 : ((2 : Int) != 2) = false := by decide
                    have NX : Hid (ch = false → Fx ds xs o (j + 1)) := fun hc => (fx.out hc).no (by rw [EQ.out, decide_eq_false hk]; rfl)
                    clear hk e1 e2 e3 EQ hjd hb fx gb
                    go_wp2_with fail
                    go_quiet ((go_at_call 30; exact Calls.quiet_of_same ((J.out _).mono fun _ _ h => ⟨h.1, h.2.symm⟩)))
                    have OWd : ∀ n, Hid (OwnI ((wr.alloc (.cells #[.string nm, .int .i64 ki, .int .i64 (p : Int), .int .i64 db, .int .i64 co] 57)).drewN n) sb (.slice (some ⟨sb, 0, none⟩) v v) o) := fun n => own2.out
                    have GBd : ∀ n, Hid (w4.grownBy ((wr.alloc (.cells #[.string nm, .int .i64 ki, .int .i64 (p : Int), .int .i64 db, .int .i64 co] 57)).drewN n) (some sb)) := fun n => gb_drewN n gb2.out
                    go_wp2
                    go_roundw
                    case rel => exact ⟨j + 1, ch, o, by omega, rfl, by go_num, OWd _, rit, NX, pot, GBd _⟩
                    case measure => simp [intOf]; omega
                · have T1 : (x != 2) = true := bne_iff_ne.2 h2
                  have NX : Hid (ch = false → Fx ds xs o (j + 1)) := fun hc => (fx.out hc).no (by rw [EQ.out, decide_eq_false h2]; rfl)
                  clear h2 e1 e2 e3 EQ hjd hb fx gb
                  go_wp2_with fail
                  go_quiet (fail)
                  have OWd : ∀ n, Hid (OwnI ((wr.alloc (.cells #[.string nm, .int .i64 ki, .int .i64 (p : Int), .int .i64 db, .int .i64 co] 57)).drewN n) sb (.slice (some ⟨sb, 0, none⟩) v v) o) := fun n => own2.out
                  have GBd : ∀ n, Hid (w4.grownBy ((wr.alloc (.cells #[.string nm, .int .i64 ki, .int .i64 (p : Int), .int .i64 db, .int .i64 co] 57)).drewN n) (some sb)) := fun n => gb_drewN n gb2.out
                  go_wp2
                  go_roundw
                  case rel => exact ⟨j + 1, ch, o, by omega, rfl, by go_num, OWd _, rit, NX, pot, GBd _⟩
                  case measure => simp [intOf]; omega
              · obtain rfl : j = L := by omega
                have P1 := Lib.hid (smW_is (f := at0 o) (fun i hi => (own_cells own.out rit.out.len i hi).1) v (Nat.le_refl _))
                have FX : Hid (ch = false → Fx ds xs o ds.length) := by
                  show _ → _
                  rw [hdl.out]; exact fx.out
                clear fx
                go_wp2
                go_roundw
                case rel => exact ⟨ch, o, rfl, own, rit, FX, gb⟩
                case measure =>
                  rw [P0.out, P1.out, chN_is, chN_is]
                  have h2 := pot.out
                  unfold ch1 at h2 ⊢
                  rw [if_pos rfl]
                  cases ch <;> simp at h2 ⊢ <;> omega
  · have T1 : (E != 0) = true := bne_iff_ne.2 e0
    go_wp2
    go_ret2
    exact ⟨_, rfl, by rw [if_neg e0]; exact AggsAt.nil _ _ _ _ _, B2.out⟩
end Go.Proofs.YtoeojhabhnoojaaDoor.col
