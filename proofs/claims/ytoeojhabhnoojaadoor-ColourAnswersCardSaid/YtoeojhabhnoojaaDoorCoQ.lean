/- The walks of layer 7's reference: Colours, Joined, Faults. They compute what the plain facts say. No condition. -/
import Derived.Test.YtoeojhabhnoojaaDoorCoR
import Derived.Test.YtoeojhabhnoojaaDoorMkB
namespace Go.Proofs.YtoeojhabhnoojaaDoor.col
open Go.RowKit Go.Maps lex aggs kit net deck msk

/-- the colours of all nodes behind j devices, and of the first v behind one more -/
def cmL (ds : List Dv) (S : List Int) (N j v : Nat) : List Int := (List.range N).map fun i => if i < v then cpK ds S (pt ds S) (j + 1) (pt ds S i) else cpK ds S (pt ds S) j (pt ds S i)
theorem cmL_len (ds : List Dv) (S : List Int) (N j v : Nat) : (cmL ds S N j v).length = N := by simp [cmL]
theorem cmL_at {ds : List Dv} {S : List Int} {N j v i : Nat} (h : i < N) : at0 (cmL ds S N j v) i = if i < v then cpK ds S (pt ds S) (j + 1) (pt ds S i) else cpK ds S (pt ds S) j (pt ds S i) := at0_map _ h
theorem cmL_zero (ds : List Dv) (S : List Int) (N : Nat) : cmL ds S N 0 0 = List.replicate N 0 := by
  refine ext0 (by rw [cmL_len, List.length_replicate]) (fun i hi => ?_)
  rw [cmL_len] at hi
  rw [cmL_at hi, if_neg (by omega), at0_get (by rw [List.length_replicate]; exact hi), List.getElem_replicate]; rfl
theorem cmL_next (ds : List Dv) (S : List Int) (N j : Nat) : cmL ds S N j N = cmL ds S N (j + 1) 0 := by
  refine ext0 (by rw [cmL_len, cmL_len]) (fun i hi => ?_)
  rw [cmL_len] at hi
  rw [cmL_at hi, cmL_at hi, if_pos hi, if_neg (by omega)]
theorem cmL_done (ds : List Dv) (S : List Int) (N : Nat) : cmL ds S N ds.length 0 = coL ds S N := by
  refine ext0 (by rw [cmL_len, coL_len]) (fun i hi => ?_)
  rw [cmL_len] at hi
  rw [cmL_at hi, coL_at hi, if_neg (by omega)]; rfl
theorem cmL_skip {ds : List Dv} {S : List Int} {N j : Nat} (h : at0 S j ≠ 2 ∨ giv (dK ds j) = 0) : cmL ds S N j 0 = cmL ds S N (j + 1) 0 := by
  refine ext0 (by rw [cmL_len, cmL_len]) (fun i hi => ?_)
  rw [cmL_len] at hi
  rw [cmL_at hi, cmL_at hi, if_neg (by omega), if_neg (by omega), cpK]
  rcases h with h | h
  · rw [if_neg (fun k => h k.1)]
  · rw [h, orC_zero]; split <;> rfl
theorem cmL_yes {ds : List Dv} {S : List Int} {N j v : Nat} {G : Int} (hv : v < N) (h2 : at0 S j = 2) (hg : giv (dK ds j) = G) (he : pt ds S v = pt ds S (dA ds j)) : (cmL ds S N j v).set v (orC (cpK ds S (pt ds S) j (pt ds S v)) G) = cmL ds S N j (v + 1) := by
  refine ext0 (by rw [List.length_set, cmL_len, cmL_len]) (fun i hi => ?_)
  rw [List.length_set, cmL_len] at hi
  rw [at_set _ (by rw [cmL_len]; exact hv), cmL_at hi, cmL_at hi]
  by_cases e : i = v
  · subst e; rw [if_pos rfl, if_pos (by omega), cpK, if_pos ⟨h2, he.symm⟩, hg]
  · rw [if_neg e]
    by_cases h : i < v
    · rw [if_pos h, if_pos (by omega)]
    · rw [if_neg h, if_neg (by omega)]
theorem cmL_no {ds : List Dv} {S : List Int} {N j v : Nat} (he : pt ds S v ≠ pt ds S (dA ds j)) : cmL ds S N j v = cmL ds S N j (v + 1) := by
  refine ext0 (by rw [cmL_len, cmL_len]) (fun i hi => ?_)
  rw [cmL_len] at hi
  rw [cmL_at hi, cmL_at hi]
  by_cases h : i < v
  · rw [if_pos h, if_pos (by omega)]
  · rw [if_neg h]
    by_cases e : i = v
    · subst e; rw [if_pos (by omega), cpK, if_neg (fun k => he k.2.symm)]
    · rw [if_neg (by omega)]
set_option maxRecDepth 100000 in
set_option maxHeartbeats 8000000 in
theorem rColours_is (a b l : Option Addr) (N c M d L k : Nat) (ns : List Nd) (ds : List Dv) (xs : List Int) (E : Int) (w : World) (h : NetIn w a b N c M d ns ds) (hx : LIn w l L k xs) (hE : chkM 2 ns ds xs = E) :
    Calls Tryd.prog 19 #[.agg #[.slice a N c, .slice b M d], .slice l L k] w (LsPost w (coL ds xs N) E) := by
  have bx := below_box w (.cells #[.slice a N c, .slice b M d] 26)
  have NT := NtAt.new w (.slice a N c) (.slice b M d) 26
  have BX := Lib.hid bx
  have S1 := Lib.hid (rParts_is a b l N c M d L k ns ds xs E _ (h.below bx) (hx.below bx) hE)
  have hsz : (w.alloc (.cells #[.slice a N c, .slice b M d] 26)).heap.size = w.heap.size + 1 := by simp
  have SZ := Lib.hid hsz
  have HN := Lib.hid (fun wr (b : Below w.heap.size w wr) => h.below b)
  have HX := Lib.hid (fun wr (b : Below w.heap.size w wr) => hx.below b)
  have HE := Lib.hid hE
  have hlx := h.dlen
  have hll := hx.len
  have hln := h.nlen
  have n1 := h.ncap
  have n2 := h.nmax
  have n3 := h.dcap
  have n4 := h.dmax
  have n5 := hx.cap
  have n6 := hx.max
  unfold maxLen at n2 n4 n6
  obtain ⟨c0, c1, hlt⟩ := NT
  clear h hx bx hE hsz
  go_enter Tryd.func19, Tryd.ntmps19
  go_wp2_with fail
  generalize w.alloc (.cells #[.slice a N c, .slice b M d] 26) = W1 at *
  refine S1.out.mono ?_
  rintro e w2 ⟨vp, rfl, ownp, b2⟩
  have k0 := (b2.cell (p := ⟨w.heap.size, 0, none⟩) hlt).trans c0
  have k1 := (b2.cell (p := ⟨w.heap.size, 1, none⟩) hlt).trans c1
  have B2 := Lib.hid (BX.out.trans (b2.mono (by have := SZ.out; omega)))
  have hw2 := b2.size
  rw [SZ.out] at hw2
  clear c0 c1 b2 S1 hlt
  by_cases e0 : E = 0
  · subst e0
    rw [if_pos rfl] at ownp
    obtain ⟨ap, cp, rfl, lp, -⟩ := ownp.lin
    rw [ptL_len] at lp ⊢
    have LP := Lib.hid lp
    have p1 := lp.cap
    have p2 := lp.max
    unfold maxLen at p2
    obtain ⟨q1, q2, -⟩ := chkM_zero HE.out
    obtain ⟨hN, hM⟩ := chk_small q1
    rw [hln] at hN
    rw [hlx] at hM
    have hLM : L = M := by rw [← hll, ← hlx, q2]
    subst hLM
    have IT := Lib.hid (fun i hi => by have := chk_its q1 i hi; rwa [hln] at this)
    have KK := Lib.hid (fun i hi => (dvE_parts (chk_dv q1 i hi)).2.2.2.1)
    have hdl := Lib.hid hlx
    have hxl := Lib.hid hll
    have hmk := msk.make_ints N (by omega) w2
    have O0 := OwnI.made w2 N (by unfold maxLen; omega)
    have bz := below_box w2 (.cells (madeCells #[.int .i64 0] N) 3)
    obtain ⟨sb, hsb⟩ : ∃ s, w2.heap.size = s := ⟨_, rfl⟩
    obtain ⟨w4, hw4⟩ : ∃ w4, w2.alloc (.cells (madeCells #[.int .i64 0] N) 3) = w4 := ⟨_, rfl⟩
    have B4 := Lib.hid (B2.out.trans (bz.mono B2.out.size))
    have z4 : w4.heap.size = sb + 1 := by rw [← hw4]; simp; exact hsb
    have NO4 := Lib.hid (NetIn.nf (HN.out _ B2.out) (k := sb) (by omega))
    have XO4 := Lib.hid (fun hp => LIn.off (HX.out _ B2.out) (k := sb) (by omega) hp)
    have LP4 := Lib.hid (LP.out.below bz)
    have LO4 := Lib.hid (fun hp => LIn.off LP.out (k := sb) (by omega) hp)
    have m0 := (bz.cell (p := ⟨w.heap.size, 0, none⟩) (by show w.heap.size < _; omega)).trans k0
    have m1 := (bz.cell (p := ⟨w.heap.size, 1, none⟩) (by show w.heap.size < _; omega)).trans k1
    rw [hw4, hsb] at hmk O0
    rw [hw4] at B4 m0 m1 LP4
    have O0 := Lib.hid O0
    have Z4 := Lib.hid z4
    have M1 := Lib.hid m1
    rw [hsb] at hw2
    clear bz z4 hsb q1 q2 HE LP lp ownp
    go_wp2_with fail
    clear hmk hw4 k0 k1 m0 m1
    go_loopw [9] (fun i wr => ∃ j : Nat, j ≤ L ∧ i = .int .i64 j ∧ Hid (OwnI wr sb (.slice (some ⟨sb, 0, none⟩) N N) (cmL ds xs N j 0)) ∧ Hid (w4.grownBy wr (some sb))) (fun i _ => L - (intOf i).toNat)
    case atStart => exact ⟨0, Nat.zero_le _, rfl, by show OwnI _ _ _ _; rw [cmL_zero]; exact O0.out, gb_refl _ _⟩
    case round =>
      clear O0
      obtain ⟨j, hj, rfl, own, gb⟩ := hrel
      have m1 := gb.out.cell M1.out (by show some w.heap.size ≠ some sb; simp; omega)
      by_cases hlt : j < L
      · have hjd : j < ds.length := by rw [hdl.out]; exact hlt
        have hjx : j < xs.length := by rw [hxl.out]; exact hlt
        have NIw := NF.keep ⟨HN.out _ B4.out, NO4.out⟩ gb.out
        have LIw := (HX.out _ B4.out).grown gb.out XO4.out
        obtain ⟨g, q, hbe, hg, hcd⟩ := NIw.din.some (by omega)
        obtain ⟨g2, q2, hle, hg2, hcl⟩ := LIw.rin.some (by omega)
        obtain ⟨c0, c1, c2, c3, c4⟩ := cells_dv hcd j hjd
        have s0 := cells_i hcl j hjx
        have it := IT.out j hjd
        have hki := KK.out j hjd
        obtain ⟨e1, e2, e3⟩ := dev_at hjd
        have e4 : ds.getD j default = ds[j] := by simp [List.getD_eq_getElem?_getD, hjd]
        rw [e4] at it hki
        obtain ⟨xd, hxd⟩ : ∃ x, ds[j] = x := ⟨_, rfl⟩
        obtain ⟨x, hx⟩ : ∃ x, at0 xs j = x := ⟨_, rfl⟩
        rw [hxd] at c0 c1 c2 c3 c4 e1 e2 e3 it hki
        rw [hx] at s0
        obtain ⟨nm, ki, da, db, co⟩ := xd
        dsimp only at c0 c1 c2 c3 c4 e1 e2 e3 hki
        obtain ⟨⟨a0, a1⟩, hb⟩ := itsB_parts it
        simp only at a0 a1 hb
        obtain ⟨p, hp⟩ : ∃ p : Nat, da = p := ⟨da.toNat, by omega⟩
        subst hp
        rw [Int.toNat_natCast] at e2
        have hpN : p < N := by omega
        have bb := below_box wr (.cells #[.string nm, .int .i64 ki, .int .i64 (p : Int), .int .i64 db, .int .i64 co] 57)
        rw [← bb.cell (p := ⟨g2, q2 + j, none⟩) hg2] at s0
        have own2 : Hid (OwnI (wr.alloc (.cells #[.string nm, .int .i64 ki, .int .i64 (p : Int), .int .i64 db, .int .i64 co] 57)) sb (.slice (some ⟨sb, 0, none⟩) N N) (cmL ds xs N j 0)) := AggsAt.alloc own.out (.cells #[.string nm, .int .i64 ki, .int .i64 (p : Int), .int .i64 db, .int .i64 co] 57)
        have gb2 : Hid (w4.grownBy (wr.alloc (.cells #[.string nm, .int .i64 ki, .int .i64 (p : Int), .int .i64 db, .int .i64 co] 57)) (some sb)) := grown_alloc gb.out _
        have HX0 := Lib.hid hx
        have DV := Lib.hid (DvAt.new wr ⟨nm, ki, p, db, co⟩ 57)
        have hds : wr.heap.size ≠ sb := by have := gb.out.size; have := Z4.out; omega
        subst hbe
        subst hle
        clear hcd hcl NIw LIw hxd hx hg hg2 e4 own gb a0 a1 it bb hjx e3
        by_cases h2 : x = 2
        · subst h2
          have T1 : ((2 : Int) != 2) = false := by decide
          by_cases hk : 1 ≤ ki ∧ ki ≤ 3
          · have J := Lib.hid (fun W => rjoins_is ki true (decide_eq_true hk) W)
            have NX : Hid (OwnI (wr.alloc (.cells #[.string nm, .int .i64 ki, .int .i64 (p : Int), .int .i64 db, .int .i64 co] 57)) sb (.slice (some ⟨sb, 0, none⟩) N N) (cmL ds xs N (j + 1) 0)) := by
              show OwnI _ _ _ _
              rw [← cmL_skip (.inr (by rw [e1]; exact giv_join (decide_eq_true hk)))]; exact own2.out
            clear hk hki hb own2 e1 e2 DV
            go_wp2_with fail
            refine (J.out _).mono ?_; rintro e w' ⟨rfl, rfl⟩
            go_wp2
            go_roundw
            case rel => exact ⟨j + 1, by omega, by go_num, NX, gb2⟩
            case measure => simp [intOf]; omega
          · have J := Lib.hid (fun W => rjoins_is ki false (decide_eq_false hk) W)
            obtain ⟨G, hG⟩ : ∃ G, giv ki = G := ⟨_, rfl⟩
            have hG4 : ki = 4 ∧ G = 2 ∨ ki ≠ 4 ∧ G = 1 := by
              rcases (show ki = 4 ∨ ki = 5 ∨ ki = 6 by omega) with rfl | rfl | rfl <;> rw [← hG] <;> decide
            have HG := Lib.hid (show giv (dK ds j) = G by rw [e1]; exact hG)
            have E2 := Lib.hid e2
            obtain ⟨-, v1, v2, -, -, -⟩ := DV.out
            dsimp only at v1 v2
            go_wp2_with fail
            refine (J.out _).mono ?_; rintro e w' ⟨rfl, rfl⟩
            have VV := Lib.hid v2
            have hg3 := giv_in ki
            rw [hG] at hg3
            generalize hgd : wr.heap.size = gd at *
            generalize wr.alloc (.cells #[.string nm, .int .i64 ki, .int .i64 (p : Int), .int .i64 db, .int .i64 co] 57) = Z at *
            clear hG hk hki hb J e1 e2 s0 c0 c1 c2 c3 c4 DV
            rcases hG4 with ⟨rfl, rfl⟩ | ⟨h4, rfl⟩
            · have T4 : ((4 : Int) == 4) = true := by decide
              go_wp2_with fail
              go_loopw [12] (fun i x => ∃ v : Nat, v ≤ N ∧ i = .int .i64 v ∧ Hid (OwnI x sb (.slice (some ⟨sb, 0, none⟩) N N) (cmL ds xs N j v)) ∧ Hid (Z.grownBy x (some sb))) (fun i _ => N - (intOf i).toNat)
              case atStart => exact ⟨0, Nat.zero_le _, rfl, own2, gb_refl _ _⟩
              case round =>
                clear own2 v1 v2
                obtain ⟨v, hv, rfl, own, gb⟩ := hrel
                by_cases hvl : v < N
                · have v2 := gb.out.cell VV.out (by show some gd ≠ some sb; simp; omega)
                  obtain ⟨g3, o3, hpe, -, hcp⟩ := ((LP4.out.grown gb2.out LO4.out).grown gb.out LO4.out).rin.some (by rw [ptL_len]; omega)
                  have r0 := cells_i hcp v (by rw [ptL_len]; exact hvl)
                  have r1 := cells_i hcp p (by rw [ptL_len]; exact hpN)
                  rw [ptL_at hvl] at r0
                  rw [ptL_at hpN] at r1
                  have NO := Lib.hid (fun h => cmL_no (ds := ds) (S := xs) (N := N) (j := j) (v := v) (by rw [E2.out]; exact h))
                  have YES := Lib.hid (fun h => cmL_yes (ds := ds) (S := xs) (N := N) (j := j) (v := v) hvl HX0.out HG.out (by rw [E2.out]; exact h))
                  have hcv : at0 (cmL ds xs N j v) v = cpK ds xs (pt ds xs) j (pt ds xs v) := by rw [cmL_at hvl, if_neg (Nat.lt_irrefl v)]
                  have hin := cpK_in ds xs (pt ds xs) j (pt ds xs v)
                  obtain ⟨P, hP⟩ : ∃ P, pt ds xs v = P := ⟨_, rfl⟩
                  obtain ⟨Q, hQ⟩ : ∃ Q, pt ds xs p = Q := ⟨_, rfl⟩
                  rw [hP] at r0 NO YES hcv hin
                  rw [hQ] at r1 NO YES
                  subst hpe
                  clear hcp hP hQ
                  by_cases hPQ : P = Q
                  · have T3 : ((P : Int) == (Q : Int)) = true := by rw [hPQ]; exact beq_self_eq_true _
                    have YE := Lib.hid (YES.out hPQ)
                    obtain ⟨C, hC⟩ : ∃ C, cpK ds xs (pt ds xs) j P = C := ⟨_, rfl⟩
                    rw [hC] at YE hcv hin
                    have hbo := bits_orC hin hg3
                    obtain ⟨R, hR⟩ : ∃ R, orC C 2 = R := ⟨_, rfl⟩
                    rw [hR] at YE hbo
                    have HCV := Lib.hid hcv
                    clear hC hR hPQ YES NO hcv
                    go_wp2_with fail
                    go_quiet (fail)
                    have own3 : ∀ n, Hid (OwnI (wr.drewN n) sb (.slice (some ⟨sb, 0, none⟩) N N) (cmL ds xs N j v)) := fun n => own.out
                    have gb3 : ∀ n, Hid (Z.grownBy (wr.drewN n) (some sb)) := fun n => gb_drewN n gb.out
                    have own3 := own3 nq
                    have gb3 := gb3 nq
                    generalize wr.drewN nq = Y4 at own3 gb3 ⊢
                    clear r0 r1 own gb v2
                    obtain ⟨rc, fc⟩ := own_cells own3.out (cmL_len _ _ _ _ _) v hvl
                    rw [HCV.out] at rc
                    have st := own3.out.set (cmL_len _ _ _ _ _) v hvl R
                    rw [YE.out] at st
                    have NU := Lib.hid st.1
                    have NG := Lib.hid (gb_tr gb3.out st.2)
                    clear st own3 gb3
                    go_wp2
                    go_roundw
                    case rel => exact ⟨v + 1, by omega, by go_num, NU, NG⟩
                    case measure => simp [intOf]; omega
                  · have T3 : ((P : Int) == (Q : Int)) = false := beq_eq_false_iff_ne.2 (by omega)
                    have NE := Lib.hid (NO.out hPQ)
                    have own3 : ∀ n, Hid (OwnI (wr.drewN n) sb (.slice (some ⟨sb, 0, none⟩) N N) (cmL ds xs N j (v + 1))) := fun n => by
                      show OwnI _ _ _ _
                      rw [← NE.out]; exact own.out
                    have gb3 : ∀ n, Hid (Z.grownBy (wr.drewN n) (some sb)) := fun n => gb_drewN n gb.out
                    clear hPQ YES NO hcv hin own gb
                    go_wp2_with fail
                    go_quiet (fail)
                    go_wp2
                    go_roundw
                    case rel => exact ⟨v + 1, by omega, by go_num, own3 _, gb3 _⟩
                    case measure => simp [intOf]; omega
                · have hvN : v = N := by omega
                  have OWN : Hid (OwnI wr sb (.slice (some ⟨sb, 0, none⟩) N N) (cmL ds xs N (j + 1) 0)) := by
                    show OwnI _ _ _ _
                    have := own.out
                    rw [hvN, cmL_next] at this
                    exact this
                  have NG := Lib.hid (gb_tr gb2.out gb.out)
                  clear hvN own gb
                  go_wp2
                  go_roundw
                  case rel => exact ⟨j + 1, by omega, by go_num, OWN, NG⟩
                  case measure => simp [intOf]; omega
            · have T4 : (ki == 4) = false := beq_eq_false_iff_ne.2 h4
              go_wp2_with fail
              go_loopw [12] (fun i x => ∃ v : Nat, v ≤ N ∧ i = .int .i64 v ∧ Hid (OwnI x sb (.slice (some ⟨sb, 0, none⟩) N N) (cmL ds xs N j v)) ∧ Hid (Z.grownBy x (some sb))) (fun i _ => N - (intOf i).toNat)
              case atStart => exact ⟨0, Nat.zero_le _, rfl, own2, gb_refl _ _⟩
              case round =>
                clear own2 v1 v2
                obtain ⟨v, hv, rfl, own, gb⟩ := hrel
                by_cases hvl : v < N
                · have v2 := gb.out.cell VV.out (by show some gd ≠ some sb; simp; omega)
                  obtain ⟨g3, o3, hpe, -, hcp⟩ := ((LP4.out.grown gb2.out LO4.out).grown gb.out LO4.out).rin.some (by rw [ptL_len]; omega)
                  have r0 := cells_i hcp v (by rw [ptL_len]; exact hvl)
                  have r1 := cells_i hcp p (by rw [ptL_len]; exact hpN)
                  rw [ptL_at hvl] at r0
                  rw [ptL_at hpN] at r1
                  have NO := Lib.hid (fun h => cmL_no (ds := ds) (S := xs) (N := N) (j := j) (v := v) (by rw [E2.out]; exact h))
                  have YES := Lib.hid (fun h => cmL_yes (ds := ds) (S := xs) (N := N) (j := j) (v := v) hvl HX0.out HG.out (by rw [E2.out]; exact h))
                  have hcv : at0 (cmL ds xs N j v) v = cpK ds xs (pt ds xs) j (pt ds xs v) := by rw [cmL_at hvl, if_neg (Nat.lt_irrefl v)]
                  have hin := cpK_in ds xs (pt ds xs) j (pt ds xs v)
                  obtain ⟨P, hP⟩ : ∃ P, pt ds xs v = P := ⟨_, rfl⟩
                  obtain ⟨Q, hQ⟩ : ∃ Q, pt ds xs p = Q := ⟨_, rfl⟩
                  rw [hP] at r0 NO YES hcv hin
                  rw [hQ] at r1 NO YES
                  subst hpe
                  clear hcp hP hQ
                  by_cases hPQ : P = Q
                  · have T3 : ((P : Int) == (Q : Int)) = true := by rw [hPQ]; exact beq_self_eq_true _
                    have YE := Lib.hid (YES.out hPQ)
                    obtain ⟨C, hC⟩ : ∃ C, cpK ds xs (pt ds xs) j P = C := ⟨_, rfl⟩
                    rw [hC] at YE hcv hin
                    have hbo := bits_orC hin hg3
                    obtain ⟨R, hR⟩ : ∃ R, orC C 1 = R := ⟨_, rfl⟩
                    rw [hR] at YE hbo
                    have HCV := Lib.hid hcv
                    clear hC hR hPQ YES NO hcv
                    go_wp2_with fail
                    go_quiet (fail)
                    have own3 : ∀ n, Hid (OwnI (wr.drewN n) sb (.slice (some ⟨sb, 0, none⟩) N N) (cmL ds xs N j v)) := fun n => own.out
                    have gb3 : ∀ n, Hid (Z.grownBy (wr.drewN n) (some sb)) := fun n => gb_drewN n gb.out
                    have own3 := own3 nq
                    have gb3 := gb3 nq
                    generalize wr.drewN nq = Y4 at own3 gb3 ⊢
                    clear r0 r1 own gb v2
                    obtain ⟨rc, fc⟩ := own_cells own3.out (cmL_len _ _ _ _ _) v hvl
                    rw [HCV.out] at rc
                    have st := own3.out.set (cmL_len _ _ _ _ _) v hvl R
                    rw [YE.out] at st
                    have NU := Lib.hid st.1
                    have NG := Lib.hid (gb_tr gb3.out st.2)
                    clear st own3 gb3
                    go_wp2
                    go_roundw
                    case rel => exact ⟨v + 1, by omega, by go_num, NU, NG⟩
                    case measure => simp [intOf]; omega
                  · have T3 : ((P : Int) == (Q : Int)) = false := beq_eq_false_iff_ne.2 (by omega)
                    have NE := Lib.hid (NO.out hPQ)
                    have own3 : ∀ n, Hid (OwnI (wr.drewN n) sb (.slice (some ⟨sb, 0, none⟩) N N) (cmL ds xs N j (v + 1))) := fun n => by
                      show OwnI _ _ _ _
                      rw [← NE.out]; exact own.out
                    have gb3 : ∀ n, Hid (Z.grownBy (wr.drewN n) (some sb)) := fun n => gb_drewN n gb.out
                    clear hPQ YES NO hcv hin own gb
                    go_wp2_with fail
                    go_quiet (fail)
                    go_wp2
                    go_roundw
                    case rel => exact ⟨v + 1, by omega, by go_num, own3 _, gb3 _⟩
                    case measure => simp [intOf]; omega
                · have hvN : v = N := by omega
                  have OWN : Hid (OwnI wr sb (.slice (some ⟨sb, 0, none⟩) N N) (cmL ds xs N (j + 1) 0)) := by
                    show OwnI _ _ _ _
                    have := own.out
                    rw [hvN, cmL_next] at this
                    exact this
                  have NG := Lib.hid (gb_tr gb2.out gb.out)
                  clear hvN own gb
                  go_wp2
                  go_roundw
                  case rel => exact ⟨j + 1, by omega, by go_num, OWN, NG⟩
                  case measure => simp [intOf]; omega
        · have T1 : (x != 2) = true := bne_iff_ne.2 h2
          have NX : Hid (OwnI (wr.alloc (.cells #[.string nm, .int .i64 ki, .int .i64 (p : Int), .int .i64 db, .int .i64 co] 57)) sb (.slice (some ⟨sb, 0, none⟩) N N) (cmL ds xs N (j + 1) 0)) := by
            show OwnI _ _ _ _
            rw [← cmL_skip (.inl (by rw [HX0.out]; exact h2))]; exact own2.out
          clear h2 hki hb own2 e1 e2 DV
          go_wp2
          go_roundw
          case rel => exact ⟨j + 1, by omega, by go_num, NX, gb2⟩
          case measure => simp [intOf]; omega
      · obtain rfl : j = L := by omega
        have FIN : Hid (OwnI wr w.heap.size (.slice (some ⟨sb, 0, none⟩) N N) (coL ds xs N)) := by
          show OwnI _ _ _ _
          rw [← cmL_done, hdl.out]
          exact AggsAt.mono own.out (by omega)
        have FB := Lib.hid (B4.out.grown gb.out B4.out.size (fun q hq => by cases hq; omega))
        go_wp2
        go_ret2
        exact ⟨_, rfl, by rw [if_pos rfl]; exact FIN.out, FB.out⟩
  · have T1 : (E != 0) = true := bne_iff_ne.2 e0
    go_wp2
    go_ret2
    exact ⟨_, rfl, by rw [if_neg e0]; exact AggsAt.nil _ _ _ _ _, B2.out⟩
set_option maxRecDepth 100000 in
set_option maxHeartbeats 8000000 in
theorem rFaults_is (a b l : Option Addr) (N c M d L k : Nat) (ns : List Nd) (ds : List Dv) (xs : List Int) (E : Int) (w : World) (h : NetIn w a b N c M d ns ds) (hx : LIn w l L k xs) (hE : chkM 2 ns ds xs = E) :
    Calls Tryd.prog 23 #[.agg #[.slice a N c, .slice b M d], .slice l L k] w (LsPost w (faL ds xs N) E) := by
  obtain ⟨i0, hi, hz0, hz1, hz2⟩ := info_parts infoI
  have bx := below_box w (.cells #[.slice a N c, .slice b M d] 26)
  have NT := NtAt.new w (.slice a N c) (.slice b M d) 26
  have BX := Lib.hid bx
  have C1 := Lib.hid (rColours_is a b l N c M d L k ns ds xs E _ (h.below bx) (hx.below bx) hE)
  have hsz : (w.alloc (.cells #[.slice a N c, .slice b M d] 26)).heap.size = w.heap.size + 1 := by simp
  have SZ := Lib.hid hsz
  have hN : E = 0 → N ≤ 32 := fun e0 => by
    have := (chk_small (chkM_zero (hE.trans e0)).1).1
    rwa [h.nlen] at this
  obtain ⟨c0, c1, hlt⟩ := NT
  clear h hx bx hE hsz
  go_enter Tryd.func23, Tryd.ntmps23
  go_wp2_with fail
  generalize w.alloc (.cells #[.slice a N c, .slice b M d] 26) = W1 at *
  refine C1.out.mono ?_
  rintro e w2 ⟨v, rfl, own, b2⟩
  have B2 := Lib.hid (BX.out.trans (b2.mono (by have := SZ.out; omega)))
  have hw2 := b2.size
  rw [SZ.out] at hw2
  clear c0 c1 b2 C1 hlt
  obtain ⟨C, Q, hC, hQl, hQ, hR⟩ : ∃ C Q, (if E = 0 then coL ds xs N else []) = C ∧ C.length = Q ∧ Q ≤ 32 ∧ ints (faK (at0 C) Q) = (if E = 0 then faL ds xs N else []) := by
    by_cases e0 : E = 0
    · refine ⟨coL ds xs N, N, by rw [if_pos e0], coL_len _ _ _, hN e0, ?_⟩
      rw [if_pos e0, faK_congr (d := colr ds xs) (fun v hv => coL_at hv)]; rfl
    · exact ⟨[], 0, by rw [if_neg e0], rfl, Nat.zero_le _, by rw [if_neg e0]; rfl⟩
  rw [hC] at own
  obtain ⟨ap, cp, rfl, lp, lpo⟩ := own.lin
  rw [hQl] at lp ⊢
  have p1 := lp.cap
  have p2 := lp.max
  unfold maxLen at p2
  have LP := Lib.hid (fun wr (b : Below w2.heap.size w2 wr) => lp.below b)
  have HQL := Lib.hid hQl
  have HR := Lib.hid hR
  clear own lp lpo hC hQl hN hR
  go_wp2
  go_loopw [8, 9] (fun q i wr => ∃ k : Nat, k ≤ Q ∧ i = .int .i64 k ∧ Hid (OwnI wr w2.heap.size q (ints (faK (at0 C) k))) ∧ Hid (Below w2.heap.size w2 wr)) (fun _ i _ => Q - (intOf i).toNat)
  case atStart => exact ⟨0, Nat.zero_le _, rfl, AggsAt.nil _ _ _ _ _, Below.refl _ _⟩
  case round =>
    obtain ⟨k, hk, rfl, own, bel⟩ := hrel
    by_cases hlt : k < Q
    · obtain ⟨g, o, rfl, hg, hc⟩ := (LP.out _ bel.out).rin.some (by rw [HQL.out]; omega)
      have c0 := cells_i hc k (by rw [HQL.out]; exact hlt)
      obtain ⟨x, hx⟩ : ∃ x, at0 C k = x := ⟨_, rfl⟩
      rw [hx] at c0
      have HX := Lib.hid hx
      have hul := faK_le (at0 C) k
      clear hx hc hg
      by_cases h3 : x = 3
      · subst h3
        have own2 := Lib.hid (AggsAt.alloc own.out (.cells #[.int .i64 (k : Int)] 3))
        have bel2 := Lib.hid (bel.out.trans ((below_box wr (.cells #[.int .i64 (k : Int)] 3)).mono bel.out.size))
        clear own bel
        go_wp2_with (at_builtin; go_must (refine wpList_append_own _ rfl (.tmp 27) (.tmp 29) 22 rfl w2.heap.size 3 i0 _ 1 8 Tryd.underlying22 hi hz0 hz1 hz2 rfl (by decide) u8 (ints (faK (at0 C) k)).length (flat encI (ints (faK (at0 C) k))) rfl own2.out _ 1 1 (encI (k : Int)) rfl rfl ?qc1 ?qc2 ?qc3 ?qc4 ?qc5 ?_))
        case qc1 => exact cell_newI _ _ rfl _ _
        case qc2 => exact encI_one _
        case qc3 => rw [ints_len]; unfold maxLen; omega
        case qc4 => rw [ints_len]; omega
        case qc5 => exact bel2.out.size
        intro v' w5 hown' hgrow hnil'
        have NU : Hid (OwnI w5 w2.heap.size v' (ints (faK (at0 C) (k + 1)))) := by
          show OwnI _ _ _ _
          rw [faK, if_pos HX.out, ints_snoc]; exact AggsAt.push hown'
        have B5 := Lib.hid (bel2.out.grown hgrow bel2.out.size (fun q hq => (World.ownsRow.lt own2.out q hq).1))
        clear hown' hgrow hnil' own2 bel2
        go_wp2
        go_roundw
        case rel => exact ⟨k + 1, by omega, by go_num, NU, B5⟩
        case measure => simp [intOf]; omega
      · have T1 : (x == 3) = false := beq_eq_false_iff_ne.2 h3
        have NU : Hid (OwnI wr w2.heap.size u8 (ints (faK (at0 C) (k + 1)))) := by
          show OwnI _ _ _ _
          rw [faK, if_neg (by rw [HX.out]; exact h3)]; exact own.out
        clear h3 own
        go_wp2
        go_roundw
        case rel => exact ⟨k + 1, by omega, by go_num, NU, bel⟩
        case measure => simp [intOf]; omega
    · obtain rfl : k = Q := by omega
      have FIN : Hid (OwnI wr w.heap.size u8 (if E = 0 then faL ds xs N else [])) := by
        show OwnI _ _ _ _
        rw [← HR.out]; exact AggsAt.mono own.out (by omega)
      have FB := Lib.hid (B2.out.trans (bel.out.mono B2.out.size))
      go_wp2
      go_ret2
      exact ⟨_, rfl, FIN.out, FB.out⟩
theorem nd_neg {N : Nat} {v : Int} (h : v < 0) : ndB N v = false := decide_eq_false (fun k => by omega)
theorem nd_big {N : Nat} {v : Int} (h : (N : Int) ≤ v) : ndB N v = false := decide_eq_false (fun k => by omega)
theorem nd_yes {N : Nat} {v : Int} (h : 0 ≤ v) (k : v < (N : Int)) : ndB N v = true := decide_eq_true ⟨h, k⟩
set_option maxRecDepth 100000 in
set_option maxHeartbeats 8000000 in
theorem rJoined_is (a b l : Option Addr) (N c M d L k : Nat) (ns : List Nd) (ds : List Dv) (xs : List Int) (u v : Int) (r : Bool) (E : Int) (w : World) (h : NetIn w a b N c M d ns ds) (hx : LIn w l L k xs)
    (_u0 : -9223372036854775808 ≤ u) (_u1 : u ≤ 9223372036854775807) (_v0 : -9223372036854775808 ≤ v) (_v1 : v ≤ 9223372036854775807) (hr : jnB N ns ds xs u v = r) (hE : jnE N ns ds xs u v = E) :
    Calls Tryd.prog 28 #[.agg #[.slice a N c, .slice b M d], .slice l L k, .int .i64 u, .int .i64 v] w fun e w' => e = .returned (.tuple #[.bool r, .int .i64 E]) ∧ Below w.heap.size w w' := by
  have bx := below_box w (.cells #[.slice a N c, .slice b M d] 26)
  have BX := Lib.hid bx
  obtain ⟨F, hF⟩ : ∃ F, chkM 2 ns ds xs = F := ⟨_, rfl⟩
  have S1 := Lib.hid (rParts_is a b l N c M d L k ns ds xs F _ (h.below bx) (hx.below bx) hF)
  have hsz : (w.alloc (.cells #[.slice a N c, .slice b M d] 26)).heap.size = w.heap.size + 1 := by simp
  have SZ := Lib.hid hsz
  have n2 := Nat.le_trans h.ncap h.nmax
  unfold maxLen at n2
  unfold jnE at hE
  rw [hF] at hE
  have HR : Hid (r = (decide (E = 0) && decide (pt ds xs u.toNat = pt ds xs v.toNat))) := by
    show _ = _
    rw [← hr]; unfold jnB jnE; rw [hF, hE]
  clear h hx bx hsz hF hr
  go_enter Tryd.func28, Tryd.ntmps28
  go_wp2_with fail
  generalize w.alloc (.cells #[.slice a N c, .slice b M d] 26) = W1 at *
  refine S1.out.mono ?_
  rintro e w2 ⟨vp, rfl, own, b2⟩
  have B2 := Lib.hid (BX.out.trans (b2.mono (by have := SZ.out; omega)))
  clear b2 S1
  by_cases e0 : F = 0
  · subst e0
    rw [if_pos rfl] at hE own
    obtain ⟨ap, cp, rfl, lp, -⟩ := own.lin
    rw [ptL_len] at lp ⊢
    have p1 := lp.cap
    have p2 := lp.max
    unfold maxLen at p2
    have LP := Lib.hid lp
    clear own lp
    by_cases hu0 : u < 0
    · have t1 : decide (u < 0) = true := decide_eq_true hu0
      have HR2 : Hid (r = false) := by show _ = _; rw [HR.out, ← hE, nd_neg hu0]; rfl
      have e7 : E = 7 := by rw [← hE, nd_neg hu0]; rfl
      subst e7
      clear hE
      go_wp2
      go_ret2
      exact ⟨ret_bt HR2.out.symm rfl, B2.out⟩
    · have t1 : decide (u < 0) = false := decide_eq_false hu0
      by_cases hu1 : (N : Int) ≤ u
      · have t2 : decide ((N : Int) ≤ u) = true := decide_eq_true hu1
        have HR2 : Hid (r = false) := by show _ = _; rw [HR.out, ← hE, nd_big hu1]; rfl
        have e7 : E = 7 := by rw [← hE, nd_big hu1]; rfl
        subst e7
        clear hE hu0
        go_wp2
        go_ret2
        exact ⟨ret_bt HR2.out.symm rfl, B2.out⟩
      · have t2 : decide ((N : Int) ≤ u) = false := decide_eq_false hu1
        by_cases hv0 : v < 0
        · have t3 : decide (v < 0) = true := decide_eq_true hv0
          have HR2 : Hid (r = false) := by show _ = _; rw [HR.out, ← hE, nd_neg hv0]; simp
          have e7 : E = 7 := by rw [← hE, nd_neg hv0]; simp
          subst e7
          clear hE hu0 hu1
          go_wp2
          go_ret2
          exact ⟨ret_bt HR2.out.symm rfl, B2.out⟩
        · have t3 : decide (v < 0) = false := decide_eq_false hv0
          by_cases hv1 : (N : Int) ≤ v
          · have t4 : decide ((N : Int) ≤ v) = true := decide_eq_true hv1
            have HR2 : Hid (r = false) := by show _ = _; rw [HR.out, ← hE, nd_big hv1]; simp
            have e7 : E = 7 := by rw [← hE, nd_big hv1]; simp
            subst e7
            clear hE hu0 hu1 hv0
            go_wp2
            go_ret2
            exact ⟨ret_bt HR2.out.symm rfl, B2.out⟩
          · have t4 : decide ((N : Int) ≤ v) = false := decide_eq_false hv1
            rw [nd_yes (by omega) (by omega), nd_yes (by omega) (by omega), if_pos ⟨rfl, rfl⟩] at hE
            subst hE
            have HR2 : Hid (r = decide (pt ds xs u.toNat = pt ds xs v.toNat)) := by show _ = _; rw [HR.out]; simp
            obtain ⟨p, hp⟩ : ∃ p : Nat, u = p := ⟨u.toNat, by omega⟩
            obtain ⟨q, hq⟩ : ∃ q : Nat, v = q := ⟨v.toNat, by omega⟩
            subst hp
            subst hq
            rw [Int.toNat_natCast, Int.toNat_natCast] at HR2
            have hpN : p < N := by omega
            have hqN : q < N := by omega
            have t5 : decide (N ≤ p) = false := decide_eq_false (by omega)
            have t6 : decide (N ≤ q) = false := decide_eq_false (by omega)
            obtain ⟨g3, o3, rfl, hg3, hcp⟩ := LP.out.rin.some (by rw [ptL_len]; omega)
            have r0 := cells_i hcp p (by rw [ptL_len]; exact hpN)
            have r1 := cells_i hcp q (by rw [ptL_len]; exact hqN)
            rw [ptL_at hpN] at r0
            rw [ptL_at hqN] at r1
            obtain ⟨A, hA⟩ : ∃ x, pt ds xs p = x := ⟨_, rfl⟩
            obtain ⟨B, hB⟩ : ∃ x, pt ds xs q = x := ⟨_, rfl⟩
            rw [hA] at r0
            rw [hB] at r1
            rw [hA, hB] at HR2
            clear hA hB hcp hg3 hu0 hu1 hv0 hv1
            go_wp2_with fail
            go_quiet (fail)
            go_wp2
            go_ret2
            refine ⟨ret_bt ?_ rfl, below_drewN B2.out _⟩
            rw [HR2.out]
            by_cases e : A = B
            · subst e; simp
            · rw [decide_eq_false e]; exact beq_eq_false_iff_ne.2 (by omega)
  · have T1 : (F != 0) = true := bne_iff_ne.2 e0
    rw [if_neg e0] at hE
    subst hE
    have HR2 : Hid (r = false) := by show _ = _; rw [HR.out, decide_eq_false e0]; rfl
    go_wp2
    go_ret2
    exact ⟨ret_bt HR2.out.symm rfl, B2.out⟩
end Go.Proofs.YtoeojhabhnoojaaDoor.col
