/- The walks of layer 7: Parts; the colours of a valid state; Colours. Conditions: the tables 'classes' and 'flags' hold what their texts lay. -/
import Derived.Test.YtoeojhabhnoojaaDoorCoB
import Derived.StillTailTactics
namespace Go.Proofs.YtoeojhabhnoojaaDoor.col
open Go.RowKit Go.Maps lex aggs kit net deck msk

/-- what a list and an error leave -/
def LsPost (w : World) (xs : List Int) (E : Int) (e : Ending) (w' : World) : Prop :=
  ∃ v, e = .returned (.tuple #[v, .int .i64 E]) ∧ OwnI w' w.heap.size v (if E = 0 then xs else []) ∧ Below w.heap.size w w'
theorem chkM_zero {f : Int} {ns : List Nd} {ds : List Dv} {xs : List Int} (h : chkM f ns ds xs = 0) : chk ns ds = 0 ∧ xs.length = ds.length ∧ xs.all (hB f) = true := by
  unfold chkM at h
  by_cases h1 : chk ns ds = 0
  · rw [if_pos h1] at h
    by_cases h2 : xs.length = ds.length
    · rw [if_pos h2] at h
      by_cases h3 : xs.all (hB f) = true
      · exact ⟨h1, h2, h3⟩
      · rw [if_neg h3] at h; exact absurd h (by decide)
    · rw [if_neg h2] at h; exact absurd h (by decide)
  · rw [if_neg h1] at h; exact absurd h h1
theorem ret_tup {v : Value} {x y : Int} (h : x = y) : Ending.returned (.tuple #[v, .int .i64 x]) = .returned (.tuple #[v, .int .i64 y]) := by rw [h]
/-- the colours of all parts behind j devices -/
def cpL (ds : List Dv) (S : List Int) (p : Nat → Nat) (N j : Nat) : List Int := (List.range N).map fun q => cpK ds S p j q
theorem cpL_len (ds : List Dv) (S : List Int) (p : Nat → Nat) (N j : Nat) : (cpL ds S p N j).length = N := by simp [cpL]
theorem cpL_at {ds : List Dv} {S : List Int} {p : Nat → Nat} {N j q : Nat} (h : q < N) : at0 (cpL ds S p N j) q = cpK ds S p j q := at0_map _ h
theorem cpL_zero (ds : List Dv) (S : List Int) (p : Nat → Nat) (N : Nat) : cpL ds S p N 0 = List.replicate N 0 := by
  refine ext0 (by rw [cpL_len, List.length_replicate]) (fun i hi => ?_)
  rw [cpL_len] at hi
  rw [cpL_at hi, at0_get (by rw [List.length_replicate]; exact hi), List.getElem_replicate]; rfl
theorem cpL_no {ds : List Dv} {S : List Int} {p : Nat → Nat} {N j : Nat} (h : at0 S j ≠ 2) : cpL ds S p N j = cpL ds S p N (j + 1) := by
  unfold cpL; congr 1; funext q; rw [cpK, if_neg (fun k => h k.1)]
theorem cpL_yes {ds : List Dv} {S : List Int} {p : Nat → Nat} {N j q : Nat} (h : at0 S j = 2) (hq : p (dA ds j) = q) (hN : q < N) : (cpL ds S p N j).set q (orC (cpK ds S p j q) (giv (dK ds j))) = cpL ds S p N (j + 1) := by
  refine ext0 (by rw [List.length_set, cpL_len, cpL_len]) (fun i hi => ?_)
  rw [List.length_set, cpL_len] at hi
  rw [at_set _ (by rw [cpL_len]; exact hN), cpL_at hi, cpL_at hi, cpK]
  by_cases e : i = q
  · subst e; rw [if_pos rfl, if_pos ⟨h, hq⟩]
  · rw [if_neg e, if_neg (fun k => e (by rw [← k.2, hq]))]
theorem bits_orC {x y : Int} (h : 0 ≤ x ∧ x ≤ 3) (k : 0 ≤ y ∧ y ≤ 3) : bits BinOp.or IntKind.i64 x y = orC x y := by
  rcases four h with rfl | rfl | rfl | rfl <;> rcases four k with rfl | rfl | rfl | rfl <;> decide +kernel
set_option maxRecDepth 100000 in
set_option maxHeartbeats 8000000 in
theorem Parts_is (a b l : Option Addr) (N c M d L k : Nat) (ns : List Nd) (ds : List Dv) (xs : List Int) (E : Int) (w : World) (H : STabs w) (h : NetIn w a b N c M d ns ds) (hx : LIn w l L k xs) (hE : chkM 2 ns ds xs = E) :
    Calls Tryd.prog 16 #[.agg #[.slice a N c, .slice b M d], .slice l L k] w (LsPost w (ptL ds xs N) E) := by
  have bx := below_box w (.cells #[.slice a N c, .slice b M d] 26)
  have NT := NtAt.new w (.slice a N c) (.slice b M d) 26
  have BX := Lib.hid bx
  have S1 := Lib.hid (mState_is a b l N c M d L k ns ds xs E _ (H.cls.below bx) (H.flg.below bx) (h.below bx) (hx.below bx) hE)
  have hsz : (w.alloc (.cells #[.slice a N c, .slice b M d] 26)).heap.size = w.heap.size + 1 := by simp
  have SZ := Lib.hid hsz
  have HN := Lib.hid (fun wr (b : Below w.heap.size w wr) => h.below b)
  have HX := Lib.hid (fun wr (b : Below w.heap.size w wr) => hx.below b)
  have HE := Lib.hid hE
  have hlx := h.dlen
  have hll := hx.len
  obtain ⟨c0, c1, hlt⟩ := NT
  clear H h hx bx hE hsz
  go_enter Tryd.func16, Tryd.ntmps16
  go_wp2_with fail
  generalize w.alloc (.cells #[.slice a N c, .slice b M d] 26) = W1 at *
  refine S1.out.mono ?_
  rintro e w2 ⟨rfl, b2⟩
  have k0 := (b2.cell (p := ⟨w.heap.size, 0, none⟩) hlt).trans c0
  have k1 := (b2.cell (p := ⟨w.heap.size, 1, none⟩) hlt).trans c1
  have B2 := Lib.hid (BX.out.trans (b2.mono (by have := SZ.out; omega)))
  clear c0 c1 b2 S1
  by_cases e0 : E = 0
  · subst e0
    obtain ⟨q1, q2, -⟩ := chkM_zero HE.out
    have hLM : L = M := by rw [← hll, ← hlx, q2]
    subst hLM
    have P2 := Lib.hid (parts_is a b l N c L d k ns ds xs _ (HN.out _ B2.out) (HX.out _ B2.out) q1)
    clear q1 q2 HE
    go_wp2_with fail
    refine P2.out.mono ?_
    rintro e w3 ⟨v, rfl, own, b3⟩
    obtain ⟨av, cv, rfl, -, -⟩ := own.lin
    have OW : Hid (OwnI w3 w.heap.size _ (ptL ds xs N)) := AggsAt.mono own (by have := B2.out.size; omega)
    have B3 := Lib.hid (B2.out.trans (b3.mono B2.out.size))
    clear own b3 P2
    go_wp2
    go_ret2
    exact ⟨_, rfl, by rw [if_pos rfl]; exact OW.out, B3.out⟩
  · have T1 : (E != 0) = true := bne_iff_ne.2 e0
    go_wp2
    go_ret2
    exact ⟨_, rfl, by rw [if_neg e0]; exact AggsAt.nil _ _ _ _ _, B2.out⟩
set_option maxRecDepth 100000 in
set_option maxHeartbeats 8000000 in
theorem colours_is (a b l : Option Addr) (N c M d k : Nat) (ns : List Nd) (ds : List Dv) (xs : List Int) (w : World) (h : NetIn w a b N c M d ns ds) (hx : LIn w l M k xs) (hc : chk ns ds = 0) :
    Calls Tryd.prog 41 #[.agg #[.slice a N c, .slice b M d], .slice l M k] w (NewI w (coL ds xs N)) := by
  have hs := chk_small hc
  rw [h.nlen, h.dlen] at hs
  obtain ⟨hN, hM⟩ := hs
  have IT := Lib.hid (fun i hi => by have := chk_its hc i hi; rwa [h.nlen] at this)
  have bx := below_box w (.cells #[.slice a N c, .slice b M d] 26)
  have NT := NtAt.new w (.slice a N c) (.slice b M d) 26
  have BX := Lib.hid bx
  have P1 := Lib.hid (parts_is a b l N c M d k ns ds xs _ (h.below bx) (hx.below bx) hc)
  have hsz : (w.alloc (.cells #[.slice a N c, .slice b M d] 26)).heap.size = w.heap.size + 1 := by simp
  have SZ := Lib.hid hsz
  have HN := Lib.hid (fun wr (b : Below w.heap.size w wr) => h.below b)
  have HX := Lib.hid (fun wr (b : Below w.heap.size w wr) => hx.below b)
  have hdl := Lib.hid h.dlen
  have hxl := Lib.hid hx.len
  have n1 := h.ncap
  have n2 := h.nmax
  have n3 := h.dcap
  have n4 := h.dmax
  have n5 := hx.cap
  have n6 := hx.max
  unfold maxLen at n2 n4 n6
  obtain ⟨c0, c1, hlt⟩ := NT
  clear h hx hc bx hsz
  go_enter Tryd.func41, Tryd.ntmps41
  go_wp2_with fail
  generalize w.alloc (.cells #[.slice a N c, .slice b M d] 26) = W1 at *
  refine P1.out.mono ?_
  rintro e w2 ⟨v, rfl, own, b2⟩
  obtain ⟨ap, cp, rfl, lp, lpo⟩ := own.lin
  rw [ptL_len] at lp ⊢
  have LP := Lib.hid lp
  have k0 := (b2.cell (p := ⟨w.heap.size, 0, none⟩) hlt).trans c0
  have k1 := (b2.cell (p := ⟨w.heap.size, 1, none⟩) hlt).trans c1
  have B2 := Lib.hid (BX.out.trans (b2.mono (by have := SZ.out; omega)))
  have p1 := lp.cap
  have p2 := lp.max
  unfold maxLen at p2
  have hw2 := b2.size
  rw [SZ.out] at hw2
  clear c0 c1 b2 P1 own lp lpo hlt
  have hmk := msk.make_ints N (by omega) w2
  have O0 := OwnI.made w2 N (by unfold maxLen; omega)
  have bz := below_box w2 (.cells (madeCells #[.int .i64 0] N) 3)
  obtain ⟨sb, hsb⟩ : ∃ s, w2.heap.size = s := ⟨_, rfl⟩
  obtain ⟨w4, hw4⟩ : ∃ w4, w2.alloc (.cells (madeCells #[.int .i64 0] N) 3) = w4 := ⟨_, rfl⟩
  have B4 := Lib.hid (B2.out.trans (bz.mono B2.out.size))
  have z4 : w4.heap.size = sb + 1 := by rw [← hw4]; simp; exact hsb
  have LP4 := Lib.hid (LP.out.below bz)
  have LO4 := Lib.hid (fun hp => LIn.off LP.out (k := sb) (by omega) hp)
  have NO4 := Lib.hid (NetIn.nf (HN.out _ B2.out) (k := sb) (by omega))
  have XO4 := Lib.hid (fun hp => LIn.off (HX.out _ B2.out) (k := sb) (by omega) hp)
  have m0 := (bz.cell (p := ⟨w.heap.size, 0, none⟩) (by show w.heap.size < _; omega)).trans k0
  have m1 := (bz.cell (p := ⟨w.heap.size, 1, none⟩) (by show w.heap.size < _; omega)).trans k1
  rw [hw4, hsb] at hmk O0
  rw [hw4] at LP4 B4 m0 m1
  have O0 := Lib.hid O0
  have Z4 := Lib.hid z4
  have M0 := Lib.hid m0
  rw [hsb] at hw2
  clear bz LP z4 hsb
  go_wp2_with fail
  clear hmk hw4 k0 k1 m0 m1
  go_loopw [21] (fun i wr => ∃ j : Nat, j ≤ M ∧ i = .int .i64 j ∧ Hid (OwnI wr sb (.slice (some ⟨sb, 0, none⟩) N N) (cpL ds xs (pt ds xs) N j)) ∧ Hid (w4.grownBy wr (some sb))) (fun i _ => M - (intOf i).toNat)
  case atStart => exact ⟨0, Nat.zero_le _, rfl, by show OwnI _ _ _ _; rw [cpL_zero]; exact O0.out, gb_refl _ _⟩
  case round =>
    clear O0
    obtain ⟨j, hj, rfl, own, gb⟩ := hrel
    by_cases hlt : j < M
    · have hjd : j < ds.length := by rw [hdl.out]; exact hlt
      have hjx : j < xs.length := by rw [hxl.out]; exact hlt
      have NIw := NF.keep ⟨HN.out _ B4.out, NO4.out⟩ gb.out
      have LIw := (HX.out _ B4.out).grown gb.out XO4.out
      have LPw := LP4.out.grown gb.out LO4.out
      obtain ⟨g, o, hbe, hg, hcd⟩ := NIw.din.some (by omega)
      obtain ⟨g2, o2, hle, hg2, hcl⟩ := LIw.rin.some (by omega)
      obtain ⟨c0, c1, c2, c3, c4⟩ := cells_dv hcd j hjd
      have s0 := cells_i hcl j hjx
      have it := IT.out j hjd
      obtain ⟨e1, e2, e3⟩ := dev_at hjd
      have e4 : ds.getD j default = ds[j] := by simp [List.getD_eq_getElem?_getD, hjd]
      rw [e4] at it
      obtain ⟨xd, hxd⟩ : ∃ x, ds[j] = x := ⟨_, rfl⟩
      obtain ⟨x, hx⟩ : ∃ x, at0 xs j = x := ⟨_, rfl⟩
      rw [hxd] at c0 c1 c2 c3 c4 e1 e2 e3 it
      rw [hx] at s0
      obtain ⟨nm, ki, da, db, co⟩ := xd
      dsimp only at c0 c1 c2 c3 c4 e1 e2 e3
      have HX2 := Lib.hid hx
      obtain ⟨⟨a0, a1⟩, -⟩ := itsB_parts it
      simp only at a0 a1
      obtain ⟨p, hp⟩ : ∃ p : Nat, da = p := ⟨da.toNat, by omega⟩
      subst hp
      rw [Int.toNat_natCast] at e2
      have hpN : p < N := by omega
      have bb := below_box wr (.cells #[.string nm, .int .i64 ki, .int .i64 (p : Int), .int .i64 db, .int .i64 co] 57)
      rw [← bb.cell (p := ⟨g2, o2 + j, none⟩) hg2] at s0
      have own2 : Hid (OwnI (wr.alloc (.cells #[.string nm, .int .i64 ki, .int .i64 (p : Int), .int .i64 db, .int .i64 co] 57)) sb (.slice (some ⟨sb, 0, none⟩) N N) (cpL ds xs (pt ds xs) N j)) := AggsAt.alloc own.out (.cells #[.string nm, .int .i64 ki, .int .i64 (p : Int), .int .i64 db, .int .i64 co] 57)
      have gb2 : Hid (w4.grownBy (wr.alloc (.cells #[.string nm, .int .i64 ki, .int .i64 (p : Int), .int .i64 db, .int .i64 co] 57)) (some sb)) := grown_alloc gb.out _
      subst hbe
      subst hle
      have hgd : wr.heap.size ≠ sb := by have := gb.out.size; have := Z4.out; omega
      clear hcd hcl NIw LIw hxd hx hg hg2 e4 hjd hjx own gb a0 a1 it e3
      by_cases h2 : x = 2
      · subst h2
        have LP5 := LPw.below bb
        obtain ⟨g3, o3, hpe, hg3, hcp⟩ := LP5.rin.some (by rw [ptL_len]; omega)
        subst hpe
        have r0 := cells_i hcp p (by rw [ptL_len]; exact hpN)
        rw [ptL_at hpN] at r0
        have hpl := pt_le ds xs p
        obtain ⟨q, hq⟩ : ∃ q, pt ds xs p = q := ⟨_, rfl⟩
        rw [hq] at r0 hpl
        have hqN : q < N := by omega
        obtain ⟨g4, hge, hlen, -, -, -, -, hcell⟩ := own2.out.some (by omega)
        cases hge
        obtain ⟨r1, f1⟩ := hcell q hqN
        rw [cpL_at hqN] at r1
        have hv := cpK_in ds xs (pt ds xs) j q
        have hgv := giv_in ki
        have NX := cpL_yes (N := N) (p := pt ds xs) (q := q) HX2.out (by rw [e2, hq]) hqN
        rw [e1] at NX
        obtain ⟨V, hV⟩ : ∃ v, cpK ds xs (pt ds xs) j q = v := ⟨_, rfl⟩
        obtain ⟨G, hG⟩ : ∃ v, giv ki = v := ⟨_, rfl⟩
        have GV := Lib.hid (fun W => given_is ki G W hG)
        rw [hV] at r1 hv NX
        rw [hG] at hgv NX
        have hbo := bits_orC hv hgv
        obtain ⟨Z, hZ⟩ : ∃ v, orC V G = v := ⟨_, rfl⟩
        rw [hZ] at NX hbo
        have HNX := Lib.hid NX
        clear hV hG hZ NX hv hgv hcp hcell e1 e2 hpl hq LPw LP5 bb hg3
        obtain ⟨-, v1, v2, -, -, -⟩ := DvAt.new wr ⟨nm, ki, p, db, co⟩ 57
        dsimp only at v1 v2
        go_wp2_with fail
        generalize wr.alloc (.cells #[.string nm, .int .i64 ki, .int .i64 (p : Int), .int .i64 db, .int .i64 co] 57) = X at *
        go_still_tail 12, (by kernel_rfl)
        still_call ((GV.out _).mono fun _ _ h => ⟨h.1, h.2.symm⟩)
        repeat still_step
        refine wpStill_nil ?_
        have own3 : Hid (OwnI X.drew sb (.slice (some ⟨sb, 0, none⟩) N N) (cpL ds xs (pt ds xs) N j)) := own2.out
        have gb3 : Hid (w4.grownBy X.drew (some sb)) := gb_drew gb2.out
        (try change wpList _ _ _ _ _ X.drew)
        generalize X.drew = Y at own3 gb3 ⊢
        clear r1 f1 own2 gb2
        obtain ⟨g5, hge, hlen, -, -, -, -, hcell⟩ := own3.out.some (by omega)
        cases hge
        obtain ⟨r1, f1⟩ := hcell q hqN
        have st := own3.out.set hlen q hqN Z
        rw [HNX.out] at st
        have NU := Lib.hid st.1
        have NG := Lib.hid (gb_tr gb3.out st.2)
        clear st hcell own3 gb3 hlen
        go_wp2
        go_roundw
        case rel => exact ⟨j + 1, by omega, by go_num, NU, NG⟩
        case measure => simp [intOf]; omega
      · have T1 : (x == 2) = false := beq_eq_false_iff_ne.2 h2
        have NU : Hid (OwnI (wr.alloc (.cells #[.string nm, .int .i64 ki, .int .i64 (p : Int), .int .i64 db, .int .i64 co] 57)) sb (.slice (some ⟨sb, 0, none⟩) N N) (cpL ds xs (pt ds xs) N (j + 1))) := by
          show OwnI _ _ _ _
          rw [← cpL_no (by rw [HX2.out]; exact h2)]; exact own2.out
        clear own2 h2 e1 e2 LPw bb
        go_wp2
        go_roundw
        case rel => exact ⟨j + 1, by omega, by go_num, NU, gb2⟩
        case measure => simp [intOf]; omega
    · obtain rfl : j = M := by omega
      have CP := Lib.hid (show cpL ds xs (pt ds xs) N j = (List.range N).map fun q => cpK ds xs (pt ds xs) ds.length q by unfold cpL; rw [hdl.out])
      have own1 : Hid (OwnI wr sb (.slice (some ⟨sb, 0, none⟩) N N) ((List.range N).map fun q => cpK ds xs (pt ds xs) ds.length q)) := by
        show OwnI _ _ _ _
        rw [← CP.out]; exact own.out
      have k0 := gb.out.cell M0.out (by simp; omega)
      have hmk := msk.make_ints N (by omega) wr
      have O0 := OwnI.made wr N (by unfold maxLen; omega)
      have bz := below_box wr (.cells (madeCells #[.int .i64 0] N) 3)
      have hsz := gb.out.size
      rw [Z4.out] at hsz
      obtain ⟨sc, hsc⟩ : ∃ s, wr.heap.size = s := ⟨_, rfl⟩
      obtain ⟨w5, hw5⟩ : ∃ w5, wr.alloc (.cells (madeCells #[.int .i64 0] N) 3) = w5 := ⟨_, rfl⟩
      have BA := B4.out.grown gb.out B4.out.size (fun q hq => by cases hq; omega)
      have B5 := Lib.hid (BA.trans (bz.mono BA.size))
      have LP5 := Lib.hid ((LP4.out.grown gb.out LO4.out).below bz)
      have LO5 := Lib.hid (fun hp => LIn.off (LP4.out.grown gb.out LO4.out) (k := sc) (by omega) hp)
      have L1 := own1.out.lin
      obtain ⟨a1, c1, he1, l1, -⟩ := L1
      rw [show ((List.range N).map fun q => cpK ds xs (pt ds xs) ds.length q).length = N by simp] at he1 l1
      cases he1
      have LC5 := Lib.hid (l1.below bz)
      rw [hw5, hsc] at hmk O0
      rw [hw5] at B5 LP5 LC5
      rw [hsc] at hsz
      have O0 := Lib.hid O0
      have z5 : w5.heap.size = sc + 1 := by rw [← hw5]; simp; exact hsc
      have Z5 := Lib.hid z5
      clear bz BA own gb z5 own1 CP l1
      go_wp2_with fail
      clear hmk hw5 hsc k0
      go_loopw [51] (fun i wr => ∃ k : Nat, k ≤ N ∧ i = .int .i64 k ∧ Hid (OwnI wr sc (.slice (some ⟨sc, 0, none⟩) N N) (prL (coL ds xs N) k)) ∧ Hid (w5.grownBy wr (some sc))) (fun i _ => N - (intOf i).toNat)
      case atStart => exact ⟨0, Nat.zero_le _, rfl, by show OwnI _ _ _ _; rw [prL_zero (coL_len _ _ _)]; exact O0.out, gb_refl _ _⟩
      case round =>
        clear O0
        obtain ⟨v, hk, rfl, own, gb⟩ := hrel
        by_cases hlt : v < N
        · have LPw := LP5.out.grown gb.out LO5.out
          have LCw := LC5.out.grown gb.out (fun _ p hp e => by cases hp; injection e with e; simp only at e; omega)
          obtain ⟨g3, o3, hpe, hg3, hcp⟩ := LPw.rin.some (by rw [ptL_len]; omega)
          subst hpe
          have r0 := cells_i hcp v (by rw [ptL_len]; exact hlt)
          rw [ptL_at hlt] at r0
          have hpl := pt_le ds xs v
          have hcv : colr ds xs v = cpK ds xs (pt ds xs) ds.length (pt ds xs v) := rfl
          obtain ⟨q, hq⟩ : ∃ q, pt ds xs v = q := ⟨_, rfl⟩
          rw [hq] at r0 hpl hcv
          have hqN : q < N := by omega
          obtain ⟨g4, o4, hge, hg4, hcc⟩ := LCw.rin.some (by simp; omega)
          cases hge
          have r1 := cells_i hcc q (by simp; omega)
          rw [at0_map _ hqN, ← hcv] at r1
          rw [Nat.zero_add] at r1
          obtain ⟨g5, he5, hlen, -, -, -, -, hcell⟩ := own.out.some (by omega)
          cases he5
          obtain ⟨c2, f2⟩ := hcell v hlt
          have st := own.out.set hlen v hlt (colr ds xs v)
          rw [prL_step (by rw [coL_len]; exact hlt) (coL_at hlt)] at st
          obtain ⟨Z, hZ⟩ : ∃ z, colr ds xs v = z := ⟨_, rfl⟩
          rw [hZ] at st r1
          have NU := Lib.hid st.1
          have NG := Lib.hid (gb_tr gb.out st.2)
          clear st hcell own gb hlen hcv hZ hcp hcc hq hpl LPw LCw hg3 hg4
          go_wp2
          go_roundw
          case rel => exact ⟨v + 1, by omega, by go_num, NU, NG⟩
          case measure => simp [intOf]; omega
        · obtain rfl : v = N := by omega
          have FIN : Hid (OwnI wr w.heap.size (.slice (some ⟨sc, 0, none⟩) v v) (coL ds xs v)) := by
            show OwnI _ _ _ _
            have := own.out
            rw [prL_end (coL_len _ _ _)] at this
            exact AggsAt.mono this (by omega)
          have FB := Lib.hid (B5.out.grown gb.out B5.out.size (fun q hq => by cases hq; omega))
          go_wp2
          go_ret
          exact ⟨_, rfl, FIN.out, FB.out⟩
end Go.Proofs.YtoeojhabhnoojaaDoor.col
