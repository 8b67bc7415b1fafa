/- The reference's Way of layer 3. -/
import Derived.Test.YtoeojhabhnoojaaDoorNwV
namespace Go.Proofs.YtoeojhabhnoojaaDoor.net
open Go.RowKit lex aggs kit deck

set_option maxRecDepth 100000 in
set_option maxHeartbeats 8000000 in
theorem rway_is (a b u : Option Addr) (N c M d U cu : Nat) (ns : List Nd) (ds : List Dv) (us : List Bool) (f t : Int) (w : World) (h : NetIn w a b N c M d ns ds) (hu : RIn encB 1 w u us) (hul : us.length = U) (hU : U ≤ maxLen)
    (f0 : -9223372036854775808 ≤ f) (f1 : f ≤ 9223372036854775807) (t0 : -9223372036854775808 ≤ t) (t1 : t ≤ 9223372036854775807) :
    Calls Tryd.prog 31 #[.agg #[.slice a N c, .slice b M d], .slice u U cu, .int .i64 f, .int .i64 t] w (WayPost ns ds us f t w) := by
  have bx := below_box w (.cells #[.slice a N c, .slice b M d] 26)
  have NT := Lib.hid (NtAt.new w (.slice a N c) (.slice b M d) 26)
  have hb := Lib.hid (h.below bx)
  have hub := Lib.hid (hu.below bx)
  have m1 : N ≤ maxLen := Nat.le_trans h.ncap h.nmax
  have m2 : M ≤ maxLen := Nat.le_trans h.dcap h.dmax
  have m3 := h.dcap
  unfold maxLen at hU m1 m2
  obtain ⟨E, hE⟩ : ∃ E, chk ns ds = E := ⟨_, rfl⟩
  have CK := Lib.hid (rcheck_is a b N c M d ns ds E _ hb.out hE)
  have BX := Lib.hid bx
  have HE := Lib.hid hE
  have hn := Lib.hid h.nlen
  have hd := Lib.hid h.dlen
  have hul := Lib.hid hul
  clear bx hE h hu
  by_cases e0 : E = 0
  · subst e0
    by_cases e1 : U = M
    · subst e1
      by_cases e2 : (0 ≤ f ∧ f < N) ∧ (0 ≤ t ∧ t < N)
      · obtain ⟨fn, rfl⟩ : ∃ k : Nat, f = k := ⟨f.toNat, by omega⟩
        obtain ⟨tn, rfl⟩ : ∃ k : Nat, t = k := ⟨t.toNat, by omega⟩
        have hfN : fn < N := by omega
        have htN : tn < N := by omega
        have hsm := chk_small HE.out
        rw [hn.out, hd.out] at hsm
        obtain ⟨hN32, hM64⟩ := hsm
        have HS := Lib.hid (nb_sym (us := us) (N := N) (fun i hi => by have := chk_its HE.out i hi; rwa [hn.out] at this))
        obtain ⟨i0, hi, hz0, hz1, hz2⟩ := info_parts infoInt
        have e2 := Lib.hid e2
        go_enter Tryd.func31, Tryd.ntmps31
        go_wp2_with fail
        refine CK.out.mono ?_; rintro e w2 ⟨rfl, b2⟩
        have B2 := Lib.hid (BX.out.trans (b2.mono BX.out.size))
        have NT2 := Lib.hid (NT.out.below b2 NT.out.2.2)
        obtain ⟨k1, k2, k3⟩ := NT2.out
        have hn2 := Lib.hid (hb.out.below b2)
        have hu2 := Lib.hid (hub.out.below b2)
        have b3 := below_box w2 (.cells #[.int .i64 (tn : Int)] 3)
        have B3 := Lib.hid (B2.out.trans (b3.mono B2.out.size))
        have NT3 := Lib.hid (NT2.out.below b3 NT2.out.2.2)
        have ST := Lib.hid (steps_is a b u N c U d cu tn w2.heap.size 1 ns ds us (w2.alloc (.cells #[.int .i64 (tn : Int)] 3)) (hn2.out.below b3) HE.out (hu2.out.below b3) hul.out htN (by simp) (by rw [World.cell?_alloc_new]; rfl))
        have hn3 := Lib.hid (hn2.out.below b3)
        have hu3 := Lib.hid (hu2.out.below b3)
        have T1 : decide ((fn : Int) < 0) = false := decide_eq_false (by omega)
        have T2 : decide ((N : Int) ≤ fn) = false := decide_eq_false (by omega)
        have T3 : decide ((tn : Int) < 0) = false := decide_eq_false (by omega)
        have T4 : decide ((N : Int) ≤ tn) = false := decide_eq_false (by omega)
        clear b2 b3 CK hn2 hu2 hb hub
        go_wp2_with fail
        refine ST.out.mono ?_; rintro e w4 ⟨z, D, rfl, hz4, cn, dist, b4⟩
        have B4 := Lib.hid (B3.out.trans (b4.mono B3.out.size))
        have NT4 := Lib.hid (NT3.out.below b4 NT3.out.2.2)
        have hn4 := Lib.hid (hn3.out.below b4)
        have hu4 := Lib.hid (hu3.out.below b4)
        have HD := Lib.hid dist
        have CN := Lib.hid cn
        have zlt := cn.lt
        obtain ⟨q1, -⟩ := cn.get hfN
        obtain ⟨q, hq⟩ : ∃ q, D fn = q := ⟨_, rfl⟩
        rw [hq] at q1
        have HQ := Lib.hid hq
        have hq0 := dist.low fn hfN
        have hq1 := dist.lt fn hfN
        rw [hq] at hq0 hq1
        clear b4 cn dist hq ST NT3 hn3 hu3 T1 T2 T3 T4 hz4
        have WI : Hid (∀ xs ok, (q = -1 ∧ ok = false ∧ xs = []) ∨ (∃ n : Nat, q = n ∧ ok = true ∧ xs = wayL (nb ds us) ds.length D n fn) → WayIs ns ds us fn tn xs ok 0) := fun xs ok hh => by
          unfold WayIs
          rw [if_pos HE.out, if_pos (hul.out.trans hd.out.symm), if_pos (by rw [hn.out]; exact e2.out)]
          refine ⟨rfl, D, by rw [hn.out]; exact HD.out, ?_⟩
          rw [Int.toNat_natCast, HQ.out]; exact hh
        by_cases e4 : q = -1
        · subst e4
          go_wp2
          exact bodyPost_ret (v := .tuple #[.slice none 0 0, .bool false, .int .i64 0]) (by simp [results, Tryd.results31, go_sem]) rfl ⟨_, [], false, 0, rfl, nums_nil _ _, B4.out, WI.out _ _ (.inl ⟨by first | rfl | trivial, rfl, rfl⟩)⟩
        · obtain ⟨n, rfl⟩ : ∃ n : Nat, q = n := ⟨q.toNat, by omega⟩
          have T : decide ((n : Int) < 0) = false := decide_eq_false (by omega)
          obtain ⟨y, hy⟩ : ∃ y, w4.heap.size = y := ⟨_, rfl⟩
          rw [hy] at zlt
          have hxy : w.heap.size < y := by rw [← hy]; exact NT4.out.2.2
          have NW := Lib.hid (fun wr (bel : Below y w4 wr) => hn4.out.below (w' := wr) (by rw [hy]; exact bel))
          have UW := Lib.hid (fun wr (bel : Below y w4 wr) => hu4.out.below (w' := wr) (by rw [hy]; exact bel))
          have HY := Lib.hid hy
          have WF := Lib.hid (fun xs h => WI.out xs true (.inr ⟨n, rfl, rfl, h⟩))
          clear e4 hy hn4 hu4 WI
          go_wp2_with fail
          go_loopw [13, 14] (fun q p wr => ∃ (k v : Nat) (acc : List Nat), v < N ∧ k + acc.length = n ∧ p = .int .i64 v ∧ Hid (D v = k) ∧ Hid (acc ++ wayL (nb ds us) ds.length D k v = wayL (nb ds us) ds.length D n fn) ∧ Hid (NumsAt wr y q acc) ∧ Hid (Below y w4 wr)) (fun _ p _ => (D (intOf p).toNat).toNat)
          case atStart => exact ⟨n, fn, [], hfN, by simp, rfl, HQ, rfl, AggsAt.nil _ _ _ _ _, Below.refl _ _⟩
          case round => as_aux_lemma =>
            obtain ⟨k, v, acc, hvN, hka, rfl, hDv, hW, nums, bel⟩ := hrel
            by_cases hk : 0 < k
            · have T0 : ((v : Int) != tn) = true := by
                rw [bne_iff_ne]; intro e
                have e' : v = tn := by omega
                have h1 := hDv.out
                have h2 := HD.out.zero
                rw [e'] at h1; omega
              have NX := Lib.hid (HD.out.next HS.out v hvN (by rw [hDv.out]; omega))
              obtain ⟨t, ht⟩ : ∃ t, nxt (nb ds us) ds.length D v = t := ⟨_, rfl⟩
              have htM : t < U := by have := NX.out.1; rw [ht, hd.out] at this; exact this
              have HT := Lib.hid ht
              clear ht q1
              go_wp2_with fail
              go_loopw [13, 14, 15] (fun q p i wr => ∃ j : Nat, j ≤ t ∧ p = .int .i64 v ∧ i = .int .i64 j ∧ Hid (NumsAt wr y q acc) ∧ Hid (Below y w4 wr)) (fun _ _ i _ => U - (intOf i).toNat)
              case atStart => exact ⟨0, Nat.zero_le _, rfl, rfl, nums, bel⟩
              case round => as_aux_lemma =>
                clear nums bel
                obtain ⟨j, hjt, rfl, rfl, nums, bel⟩ := hrel
                obtain ⟨k1, k2, -⟩ := NT4.out.below bel.out hxy
                have hj : j < U := by omega
                have hjd : j < ds.length := by rw [hd.out]; exact hj
                have hju : j < us.length := by rw [hul.out]; exact hj
                obtain ⟨g2, o2, hue, hg2, hcu⟩ := (UW.out _ bel.out).some (by omega)
                subst hue
                have u0 := cells_b hcu j hju
                obtain ⟨bu, hbu⟩ : ∃ x, us[j] = x := ⟨_, rfl⟩
                rw [hbu] at u0
                obtain ⟨na, hna⟩ : ∃ r, acr (ds.getD j default) v = r := ⟨_, rfl⟩
                have hoth : othV ns ds j v = na := by unfold othV; rw [if_pos ⟨HE.out, by omega, by omega⟩, Int.toNat_natCast, hna]
                have OT := Lib.hid (rother_is a b N c U d ns ds j v na wr (NW.out _ bel.out) (by omega) (by omega) hoth)
                have G := Lib.hid (show nb ds us j v = if bu = true then na else -1 by
                  unfold nb; rw [hna, List.getD_eq_getElem?_getD, List.getElem?_eq_getElem hju, hbu]; rfl)
                have SY := Lib.hid (HS.out j hjd v hvN)
                clear hbu hna hcu hjd hju hoth
                go_wp2_with fail
                refine OT.out.mono ?_; rintro e w9 ⟨rfl, b9⟩
                have hsz := bel.out.size
                rw [HY.out] at hsz
                have bel2 := Lib.hid (bel.out.trans (b9.mono hsz))
                have nums2 : Hid (NumsAt w9 y u13 acc) := AggsAt.below nums.out b9
                have u0' : w9.cell? ⟨g2, o2 + j, none⟩ = some (.bool bu) := by rw [b9.cell (p := ⟨g2, o2 + j, none⟩) hg2]; exact u0
                have AR := Lib.hid (Cnts.below CN.out (by rw [HY.out]; exact bel2.out))
                obtain ⟨q1, -⟩ := AR.out.get (t := v) hvN
                rw [hDv.out] at q1
                have hsz9 : y ≤ w9.heap.size := by have := bel2.out.size; rw [HY.out] at this; exact this
                clear b9 u0 k1 k2 nums bel OT hsz hg2
                have NO : Hid (nearB (nb ds us) D v j = false → j < t) := fun h => by
                  by_cases e : j = t
                  · have := NX.out.2.2.2; rw [HT.out, ← e, h] at this; exact absurd this Bool.false_ne_true
                  · omega
                cases bu
                · have hjt2 := NO.out (near_no (by rw [G.out]; rfl))
                  go_wp2
                  go_quiet (fail)
                  go_wp2
                  go_roundw
                  case rel => exact ⟨j + 1, by omega, rfl, by go_num, nums2, below_drewN bel2.out _⟩
                  case measure => simp [intOf]; omega
                · by_cases e1 : na = -1
                  · subst e1
                    have hjt2 := NO.out (near_no (by rw [G.out]; rfl))
                    go_wp2
                    go_quiet (fail)
                    go_wp2
                    go_roundw
                    case rel => exact ⟨j + 1, by omega, rfl, by go_num, nums2, below_drewN bel2.out _⟩
                    case measure => simp [intOf]; omega
                  · obtain ⟨x, hx, rfl⟩ : ∃ x : Nat, x < N ∧ na = x := by
                      rcases SY.out with e | ⟨u, h1, h2, _⟩
                      · rw [G.out, if_pos rfl] at e; exact absurd e e1
                      · rw [G.out, if_pos rfl] at h2; exact ⟨u, h1, h2⟩
                    clear e1 SY
                    have T1 : decide (0 ≤ (x : Int)) = true := decide_eq_true (by omega)
                    obtain ⟨f1, -⟩ := AR.out.get (t := x) hx
                    obtain ⟨Du, hDu⟩ : ∃ z, D x = z := ⟨_, rfl⟩
                    have hDl := HD.out.low x hx
                    have hDh := HD.out.lt x hx
                    rw [hDu] at f1 hDl hDh
                    have HDu := Lib.hid hDu
                    clear hDu
                    by_cases e2 : Du = (k : Int) - 1
                    · have T2 : (Du == (k : Int) - 1) = true := by rw [e2]; exact beq_self_eq_true _
                      have hnear := near_is (D := D) (by rw [G.out]; rfl) true (decide_eq_true (by rw [HDu.out, hDv.out]; exact e2))
                      have ejt : t = j := by
                        by_cases e : j = t
                        · exact e.symm
                        · have := NX.out.2.2.1 j (by rw [HT.out]; omega); rw [hnear] at this; exact absurd this (by decide)
                      subst ejt
                      have WN : Hid ((acc ++ [t]) ++ wayL (nb ds us) ds.length D (k - 1) x = wayL (nb ds us) ds.length D n fn) := by
                        have h := hW.out
                        rw [show k = (k - 1) + 1 from by omega, wayL, HT.out, G.out, if_pos rfl, Int.toNat_natCast] at h
                        show _ = _
                        rw [List.append_assoc]; exact h
                      have DX : Hid (D x = ((k - 1 : Nat) : Int)) := by show _ = _; rw [HDu.out]; omega
                      clear e2 hnear
                      go_wp2
                      go_quiet (fail)
                      have nums3 : Hid (NumsAt ((w9.drewN nq).alloc (.cells #[.int .i64 (t : Int)] 3)) y u13 acc) := AggsAt.alloc (nums2.out.drewN nq) _
                      have bel3 := Lib.hid ((below_drewN bel2.out nq).trans ((below_box _ (.cells #[.int .i64 (t : Int)] 3)).mono hsz9))
                      go_wp2_with (at_builtin; go_must (refine wpList_append_own _ rfl (.tmp 93) (.tmp 95) 22 rfl y 3 i0 _ 1 8 Tryd.underlying22 hi hz0 hz1 hz2 rfl (by decide) u13 acc.length (flat encN acc) rfl nums3.out _ 1 1 (encN t) rfl rfl ?qc1 ?qc2 ?qc3 ?qc4 ?qc5 ?_))
                      case qc1 => exact cell_new1 _ _ (by simp) _ t
                      case qc2 => exact encN_one t
                      case qc3 => unfold maxLen; omega
                      case qc4 => omega
                      case qc5 => have := bel3.out.size; rw [HY.out] at this; exact this
                      intro v' w5 hown' hgrow hnil'
                      have NU := Lib.hid (show NumsAt w5 y v' (acc ++ [t]) from AggsAt.push hown')
                      have B5 := Lib.hid (bel3.out.grown hgrow (by have := bel3.out.size; rw [HY.out] at this; exact this) (fun q hq => by have := (World.ownsRow.lt nums3.out q hq).1; exact this))
                      clear hown' hgrow hnil' nums3 bel3
                      go_wp2
                      go_roundw
                      case rel => exact ⟨k - 1, x, acc ++ [t], hx, by simp; omega, rfl, DX, WN, NU, B5⟩
                      case measure =>
                        show (D ((x : Int)).toNat).toNat < (D ((v : Int)).toNat).toNat
                        rw [Int.toNat_natCast, Int.toNat_natCast, DX.out, hDv.out]; omega
                    · have T2 : (Du == (k : Int) - 1) = false := beq_eq_false_iff_ne.2 e2
                      have hjt2 := NO.out (near_is (by rw [G.out]; rfl) false (decide_eq_false (by rw [HDu.out, hDv.out]; exact e2)))
                      clear e2
                      go_wp2
                      go_quiet (fail)
                      go_wp2
                      go_roundw
                      case rel => exact ⟨j + 1, by omega, rfl, by go_num, nums2, below_drewN bel2.out _⟩
                      case measure => simp [intOf]; omega
            · obtain rfl : k = 0 := by omega
              have e : acc = wayL (nb ds us) ds.length D n fn := by have := hW.out; rw [wayL, List.append_nil] at this; exact this
              have ev : v = tn := HD.out.only v hvN (by rw [hDv.out]; rfl)
              have W9 := Lib.hid (WF.out acc e)
              have BF := Lib.hid (B4.out.trans (bel.out.mono (by omega)))
              have NF := Lib.hid (AggsAt.mono nums.out (Nat.le_of_lt hxy))
              clear e WF nums bel
              subst ev
              go_wp2
              exact bodyPost_ret (v := .tuple #[u13, .bool true, .int .i64 0]) (by simp [results, Tryd.results31, go_sem]) rfl ⟨_, acc, true, 0, rfl, NF.out, BF.out, W9.out⟩
      · have WI : Hid (WayIs ns ds us f t [] false 7) := by
          show WayIs _ _ _ _ _ _ _ _
          unfold WayIs
          rw [if_pos HE.out, if_pos (hul.out.trans hd.out.symm), if_neg (by rw [hn.out]; exact e2)]
          exact ⟨rfl, rfl, rfl⟩
        go_enter Tryd.func31, Tryd.ntmps31
        go_wp2_with fail
        refine CK.out.mono ?_; rintro e w2 ⟨rfl, b2⟩
        have B2 := Lib.hid (BX.out.trans (b2.mono BX.out.size))
        have NT2 := Lib.hid (NT.out.below b2 NT.out.2.2)
        obtain ⟨k1, k2, k3⟩ := NT2.out
        clear b2
        go_wp2
        all_goals first
          | (exfalso; omega)
          | exact bodyPost_ret (v := .tuple #[.slice none 0 0, .bool false, .int .i64 7]) (by simp [results, Tryd.results31, go_sem]) rfl ⟨_, [], false, 7, rfl, nums_nil _ _, B2.out, WI.out⟩
    · have WI : Hid (WayIs ns ds us f t [] false 9) := by
        show WayIs _ _ _ _ _ _ _ _
        unfold WayIs
        rw [if_pos HE.out, if_neg (by rw [hul.out, hd.out]; exact e1)]
        exact ⟨rfl, rfl, rfl⟩
      have T : ((U : Int) != M) = true := by rw [bne_iff_ne]; omega
      clear e1
      go_enter Tryd.func31, Tryd.ntmps31
      go_wp2_with fail
      refine CK.out.mono ?_; rintro e w2 ⟨rfl, b2⟩
      have B2 := Lib.hid (BX.out.trans (b2.mono BX.out.size))
      have NT2 := Lib.hid (NT.out.below b2 NT.out.2.2)
      obtain ⟨k1, k2, k3⟩ := NT2.out
      clear b2
      go_wp2
      exact bodyPost_ret (v := .tuple #[.slice none 0 0, .bool false, .int .i64 9]) (by simp [results, Tryd.results31, go_sem]) rfl ⟨_, [], false, 9, rfl, nums_nil _ _, B2.out, WI.out⟩
  · have WI : Hid (WayIs ns ds us f t [] false E) := by
      show WayIs _ _ _ _ _ _ _ _
      unfold WayIs
      rw [if_neg (by rw [HE.out]; exact e0), HE.out]
      exact ⟨rfl, rfl, rfl⟩
    have T := bne_t e0
    clear e0
    go_enter Tryd.func31, Tryd.ntmps31
    go_wp2_with fail
    refine CK.out.mono ?_; rintro e w2 ⟨rfl, b2⟩
    have B2 := Lib.hid (BX.out.trans (b2.mono BX.out.size))
    clear b2
    go_wp2
    exact bodyPost_ret (v := .tuple #[.slice none 0 0, .bool false, .int .i64 E]) (by simp [results, Tryd.results31, go_sem]) rfl ⟨_, [], false, E, rfl, nums_nil _ _, B2.out, WI.out⟩
end Go.Proofs.YtoeojhabhnoojaaDoor.net
