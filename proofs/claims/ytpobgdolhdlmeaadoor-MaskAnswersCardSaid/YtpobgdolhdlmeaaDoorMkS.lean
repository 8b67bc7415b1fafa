/- For every list of numbers MaskStates returns true: All has exactly the states that agree, each once, in order, from Lowest to Highest. Condition: the table 'flags' holds what the program's text lays (the card ties that). -/
import Derived.Test.YtpobgdolhdlmeaaDoorMkK
namespace Go.Proofs.YtpobgdolhdlmeaaDoor.msk
open Go.RowKit lex aggs kit net deck

theorem rows_el {w : World} {base bd g K c : Nat} {S : List Int} (h : RowsI w base (.slice (some ⟨g, 0, none⟩) K c) (allL S)) (hb : bd < base) (i : Nat) (hi : i < 2 ^ (unkL S).length) :
    ∃ q cq, w.cell? ⟨g, i, none⟩ = some (.slice q S.length cq) ∧ Kept w bd q S.length cq (stL S i) := by
  obtain ⟨g', q, cq, e, -, -, h1, h2, h3⟩ := h.get i (by rw [allL_len]; exact hi)
  cases e
  have e2 : (allL S)[i]'(by rw [allL_len]; exact hi) = stL S i := by
    have := allL_get hi
    rw [List.getElem?_eq_getElem (by rw [allL_len]; exact hi)] at this
    exact Option.some.inj this
  rw [e2, stL_len] at h1 h2
  exact ⟨q, cq, h1, h2, fun p _ hp => by have := h3 p hp; omega⟩
theorem RowsI.far {w w' : World} {base bd : Nat} {v : Value} {xss : List (List Int)} (h : RowsI w base v xss) (hg : w.grownBy w' (some bd)) (hb : bd < base) : RowsI w' base v xss := h.grown hg (fun k hk => by cases hk; exact hb)
section
variable {w0 WS X Y : World} {bd len cap g i k j : Nat} {a : Option Addr} {v0 u0 : Value}
theorem duo_below (h : X.cell? ⟨g, i, none⟩ = some v0 ∧ X.cell? ⟨k, j, none⟩ = some u0 ∧ Game w0 X bd a len cap ∧ WS.grownBy X (some bd)) (hg : g ≠ bd) (hk : k ≠ bd) (b : Below X.heap.size X Y) :
    Y.cell? ⟨g, i, none⟩ = some v0 ∧ Y.cell? ⟨k, j, none⟩ = some u0 ∧ Game w0 Y bd a len cap ∧ WS.grownBy Y (some bd) :=
  duo_keep h hg hk (h.2.2.1.by_below b) (gb_bl b _)
end
theorem st_chk {ns : List Nd} {ds : List Dv} {S : List Int} (hc : chk ns ds = 0) (hl : S.length = ds.length) (hm : S.all mB = true) (k : Nat) : chkM 2 ns ds (stL S k) = 0 := by
  unfold chkM
  rw [if_pos hc, if_pos (by rw [stL_len]; exact hl), if_pos]
  refine all_iff.2 (fun i hi => ?_)
  rw [stL_len] at hi
  rw [stL_at hi]
  exact pB_iff.2 (stA_in (mB_iff.1 (all_iff.1 hm i hi)))
set_option maxRecDepth 100000 in
set_option maxHeartbeats 16000000 in
theorem states_walk (la : Option Addr) (len cap : Nat) (zs : List Int) (W0 : World) (hr : IsRow .i64 W0 la len cap zs) (h : STabs W0) :
    Calls Tryd.prog 4 #[.slice la len cap] W0 fun e w' => e = .returned (.bool true) ∧ Below W0.heap.size W0 w' := by
  have hl : len ≤ 9223372036854775807 := by
    rcases hr with ⟨_, h, _⟩ | ⟨_, _, h1, h2, _⟩
    · omega
    · unfold maxLen at h2; omega
  have H0 := Lib.hid h
  have HR := Lib.hid hr
  clear h hr
  by_cases h4 : len ≤ 400
  · have t1 : decide ((len : Int) ≤ 400) = true := decide_eq_true (by omega)
    go_enter Tryd.func4, Tryd.ntmps4
    go_wp2_with fail
    refine (few_any _ _ _ _ hl).mono ?_; rintro e w' ⟨rfl, rfl⟩
    go_wp2_with fail
    refine (newg_any _ _ _ _).mono ?_; rintro e w1 ⟨rfl, g1⟩
    have hbw := g1.lt
    obtain ⟨bd, hbd⟩ : ∃ b, W0.heap.size = b := ⟨_, rfl⟩
    have HB := Lib.hid hbd
    rw [hbd] at hbw g1 ⊢
    clear hbd h4 t1 hl
    go_wp2_with fail
    refine (network_is (nodes := 6) (devices := 9) g1 HR.out (by decide) (by decide) (by decide) (by decide)).mono ?_
    rintro e W2 ⟨vn, vd, ns, ds, rfl, g2, rn, rdd, gn, gd, n1, n2, d1, d2⟩
    obtain ⟨an, cn, ad, cd, rfl, rfl, ni, z1, z2⟩ := rows_net rn rdd (by omega) gn gd hbw
    obtain ⟨N, hN⟩ : ∃ N, ns.length = N := ⟨_, rfl⟩
    obtain ⟨M, hM⟩ : ∃ M, ds.length = M := ⟨_, rfl⟩
    rw [hN] at ni ⊢
    rw [hM] at d1 d2 ni ⊢
    have bx := below_box W2 (.cells #[.slice an N cn, .slice ad M cd] 26)
    have NT := Lib.hid (NtAt.new W2 (.slice an N cn) (.slice ad M cd) 26)
    have G3 := Lib.hid (g2.alloc (.cells #[.slice an N cn, .slice ad M cd] 26))
    have NF3 : Hid (NF (W2.alloc (.cells #[.slice an N cn, .slice ad M cd] 26)) bd an ad N cn M cd ns ds) := ⟨ni.below bx, z1, z2⟩
    have hb2 := g2.lt
    obtain ⟨g, hg⟩ : ∃ g, W2.heap.size = g := ⟨_, rfl⟩
    rw [hg] at NT hb2
    obtain ⟨W3, hW3⟩ : ∃ W3, W2.alloc (.cells #[.slice an N cn, .slice ad M cd] 26) = W3 := ⟨_, rfl⟩
    have hs3 : bd < W3.heap.size := by rw [← hW3]; simp; omega
    rw [hW3] at NT G3 NF3
    have hgb : g ≠ bd := by omega
    have k1 := NT.out.1
    have k2 := NT.out.2.1
    have gm0 := G3.out
    have gr0 := gb_refl W3 (some bd)
    have CHK := Lib.hid (good_chk (by omega) (by omega) gn gd)
    have HDM := Lib.hid hM
    clear rn rdd gn gd hN hM ni z1 z2 g1 g2 hbw bx n1 n2 hb2
    go_wp2_with fail
    (try rw [hW3])
    clear hW3 hg
    refine (masks_is gm0 HR.out an ad N cn M cd ns ds (NF3.out.keep2 gr0) (by omega) (by omega) 6 (by decide)).mono ?_
    rintro e w4 ⟨v, S, rfl, own, hS, hSm, hSu, gm4, gb4⟩
    obtain ⟨aM, cM, rfl, kM⟩ := OwnI.kept own (show bd < W3.heap.size from hs3)
    rw [hS] at kM ⊢
    have KM := Lib.hid kM
    have GM := Lib.hid gm4
    have WG := Lib.hid gb4
    have C0 := Lib.hid NT.out.1
    have C1 := Lib.hid NT.out.2.1
    have h64 : M ≤ 64 := by omega
    have HSL := Lib.hid hS
    have HSM := Lib.hid hSm
    obtain ⟨U, hU⟩ : ∃ u, (unkL S).length = u := ⟨_, rfl⟩
    have HU := Lib.hid hU
    rw [hU] at hSu
    obtain ⟨ey, ez⟩ := count_yes hSm (by rw [hU]; omega)
    rw [hU] at ey
    obtain ⟨K, hK⟩ : ∃ k, 2 ^ U = k := ⟨_, rfl⟩
    have HK := Lib.hid hK
    rw [hK] at ey
    have EY := Lib.hid ey
    have EZ := Lib.hid ez
    have hK1 : 1 ≤ K := by rw [← hK]; exact Nat.pow_pos (by decide)
    have hK64 : K ≤ 64 := by
      rw [← hK]
      exact Nat.pow_le_pow_right (n := 2) (by decide) hSu
    have CH2 : Hid (∀ k, chkM 2 ns ds (stL S k) = 0) := fun k => st_chk CHK.out (by rw [hS, HDM.out]) hSm k
    clear kM own hS hSm gm4 gb4 hU ey ez hK k1 k2 gm0 gr0 NT hs3 G3
    go_wp2_with fail
    refine (all_is aM M cM S _ (H0.out.below GM.out.below).flg KM.out.1 h64).mono ?_
    rintro e w5 ⟨v, rfl, hv, bX⟩
    rw [EZ.out, if_pos rfl] at hv
    rw [EZ.out]
    have hbv := GM.out.lt
    obtain ⟨ar, cr, rfl, hcr, hcr2⟩ := hv.length
    rw [allL_len, HU.out, HK.out] at hv hcr ⊢
    obtain ⟨gr, -, -, rfl, hgr, hgr2, -, -, -⟩ := hv.get 0 (by rw [allL_len, HU.out, HK.out]; omega)
    have hgrb : gr ≠ bd := by omega
    have RW := Lib.hid hv
    have BV := Lib.hid hbv
    have GM := Lib.hid (GM.out.by_below bX)
    have WG := Lib.hid (gb_be WG.out bX)
    have KM := Lib.hid (KM.out.below bX)
    unfold maxLen at hcr2
    clear bX hv hbv hgr hgr2
    go_wp2_with fail
    refine (count_is aM M cM S _ (H0.out.below GM.out.below).flg KM.out.1 h64).mono ?_
    rintro e w6 ⟨rfl, bX⟩
    rw [EZ.out, EY.out]
    have GM := Lib.hid (GM.out.by_below bX)
    have WG := Lib.hid (gb_be WG.out bX)
    have KM := Lib.hid (KM.out.below bX)
    have RW := Lib.hid (RW.out.below bX)
    clear bX
    obtain ⟨p0, c0, r0, k0⟩ := rows_el RW.out BV.out 0 (by rw [HU.out, HK.out]; omega)
    obtain ⟨p1, c1, r1, k1⟩ := rows_el RW.out BV.out (K - 1) (by rw [HU.out, HK.out]; omega)
    rw [HSL.out] at r0 r1 k0 k1
    have hz : (K : Int) - 1 = ((K - 1 : Nat) : Int) := by omega
    have K0 := Lib.hid k0
    have K1 := Lib.hid k1
    have E0 := Lib.hid (stL_zero S)
    have E1 : Hid (stL S (K - 1) = setL 2 S) := by show _ = _; rw [← HK.out, ← HU.out]; exact stL_last S
    obtain ⟨Q, hQ⟩ : ∃ q, K - 1 = q := ⟨_, rfl⟩
    have hQK : Q < K := by omega
    rw [hQ] at r1 K1 E1 hz
    have hw1 : IntKind.i64.wrap ((K : Int) - 1) = (Q : Int) := by rw [IntWalk.i64_in _ (by omega)]; exact hz
    have gm0 := GM.out
    have gr0 := gb_refl w6 (some bd)
    have T1 : decide ((K : Int) < 1) = false := decide_eq_false (by omega)
    have qa : 0 < K := by omega
    have hwq : IntKind.i64.wrap (Q : Int) = (Q : Int) := IntWalk.i64_in _ (by omega)
    have qb : (0 : Int) < (K : Int) := by omega
    have qc : (0 : Int) ≤ (Q : Int) := by omega
    have qd : (Q : Int) < (K : Int) := by omega
    have LS : (setL 1 S).length = M := by rw [setL_len]; exact HSL.out
    have LS2 : (setL 2 S).length = M := by rw [setL_len]; exact HSL.out
    have HLS := Lib.hid LS
    have HLS2 := Lib.hid LS2
    clear k0 k1 hQ LS LS2
    go_wp2_with fail
    go_region_held3 (fun w' => w'.cell? ⟨gr, 0, none⟩ = some (.slice p0 M c0) ∧ w'.cell? ⟨gr, Q, none⟩ = some (.slice p1 M c1) ∧ Game W0 w' bd la len cap ∧ w6.grownBy w' (some bd))
      (first | exact duo_drew ⟨r0, r1, gm0, gr0⟩ | exact ⟨r0, r1, gm0, gr0⟩ | exact duo_drew (by assumption) | exact duo_below (by assumption) hgrb hgrb (by assumption) | exact duo_drew (duo_below (by assumption) hgrb hgrb (by assumption)) | go_keep)
      (first
        | (go_at_call 26; refine (lowest_is aM M cM S _ (KM.out.far (duo_game (by assumption)).2).1 h64).mono ?_; rintro e w7 ⟨v, rfl, hv, b7⟩; obtain ⟨av, cv, rfl, lv, -⟩ := hv.lin; rw [HLS.out] at lv ⊢; have l0 := ((K0.out.far (gb_be (duo_game (by assumption)).2 b7)).1); have dd := decide_eq_true E0.out; clear hv)
        | (go_at_call 28; refine (highest_is aM M cM S _ (KM.out.far (duo_game (by assumption)).2).1 h64).mono ?_; rintro e w7 ⟨v, rfl, hv, b7⟩; obtain ⟨av, cv, rfl, lv, -⟩ := hv.lin; rw [HLS2.out] at lv ⊢; have l0 := ((K1.out.far (gb_be (duo_game (by assumption)).2 b7)).1); have dd := decide_eq_true E1.out; clear hv)
        | (go_at_call 23; refine (ints_b _ _ _ _ _ _ _ _ true _ (by assumption) (by assumption) (by assumption)).mono ?_; rintro e w7 ⟨rfl, b7⟩))
    rename_i hH
    have gbw := hH.2.2.2
    have GM := Lib.hid hH.2.2.1
    have WG := Lib.hid (gb_tr WG.out gbw)
    have KM := Lib.hid (KM.out.far gbw)
    have RW := Lib.hid (RowsI.far RW.out gbw BV.out)
    clear hH gbw r0 r1 gm0 gr0 T1 qa qb qc qd hwq hw1 hz hQK K0 K1 E0 E1 lv l0 dd b7 HLS HLS2
    go_wp2
    go_loopw [73] (fun i wr => ∃ k : Nat, k ≤ K ∧ i = .int .i64 k ∧ Hid (w7.grownBy wr (some bd)) ∧ Hid (Game W0 wr bd la len cap)) (fun i _ => K - (intOf i).toNat)
    case atStart => exact ⟨0, Nat.zero_le _, rfl, gb_refl _ _, GM.out⟩
    case round =>
      clear GM
      obtain ⟨k, hk, rfl, gb, gm⟩ := hrel
      have GM := Lib.hid gm.out
      by_cases hlt : k < K
      · have WG := Lib.hid (gb_tr WG.out gb.out)
        have KM := Lib.hid (KM.out.far gb.out)
        have RW := Lib.hid (RowsI.far RW.out gb.out BV.out)
        have n1 := WG.out.cell C0.out (by simpa using hgb)
        have n2 := WG.out.cell C1.out (by simpa using hgb)
        obtain ⟨q, cq, rk, kk⟩ := rows_el RW.out BV.out k (by rw [HU.out, HK.out]; exact hlt)
        rw [HSL.out] at rk kk
        have KK := Lib.hid kk
        have WW := Lib.hid gb.out
        have AG := Lib.hid (agr_st HSM.out k)
        have qk : (k : Int) < (K : Int) := by omega
        clear kk gm gb
        go_wp2_with fail
        refine (agrees_b q aM M cq M cM (stL S k) S true _ (H0.out.below GM.out.below).flg KK.out.1 KM.out.1 AG.out).mono ?_
        rintro e x1 ⟨rfl, bX⟩
        have GM := Lib.hid (GM.out.by_below bX)
        have WG := Lib.hid (gb_be WG.out bX)
        have WW := Lib.hid (gb_be WW.out bX)
        have KM := Lib.hid (KM.out.below bX)
        have RW := Lib.hid (RW.out.below bX)
        have KK := Lib.hid (KK.out.below bX)
        clear bX
        have n1 := WG.out.cell C0.out (by simpa using hgb)
        have n2 := WG.out.cell C1.out (by simpa using hgb)
        clear rk
        go_wp2_with fail
        refine (mState_is an ad q N cn M cd M cq ns ds (stL S k) 0 _ (H0.out.below GM.out.below).cls (H0.out.below GM.out.below).flg (NF3.out.keep WG.out) KK.out.1 (CH2.out k)).mono ?_
        rintro e x2 ⟨rfl, bX⟩
        have GM := Lib.hid (GM.out.by_below bX)
        have WG := Lib.hid (gb_be WG.out bX)
        have WW := Lib.hid (gb_be WW.out bX)
        have KM := Lib.hid (KM.out.below bX)
        have RW := Lib.hid (RW.out.below bX)
        have KK := Lib.hid (KK.out.below bX)
        clear bX
        clear n1 n2 qk
        by_cases hk0 : k = 0
        · have T3 : decide ((0 : Int) < (k : Int)) = false := decide_eq_false (by omega)
          have WG7 : Hid (w7.grownBy x2 (some bd)) := by exact WW.out
          go_wp2
          go_roundw
          case rel => exact ⟨k + 1, by omega, by go_num, WG7, GM⟩
          case measure => simp [intOf]; omega
        · have T3 : decide ((0 : Int) < (k : Int)) = true := decide_eq_true (by omega)
          obtain ⟨P, hP⟩ : ∃ P, k - 1 = P := ⟨_, rfl⟩
          have hPk : P + 1 = k := by omega
          obtain ⟨J, hJ, hJe, hJl⟩ := st_order (at0 S) S.length P (by rw [hPk]; show k < 2 ^ (unkL S).length; rw [HU.out, HK.out]; exact hlt)
          rw [hPk] at hJe hJl
          rw [HSL.out] at hJ
          have HJE := Lib.hid hJe
          have HJL := Lib.hid hJl
          obtain ⟨q2, c2, rk2, kk2⟩ := rows_el RW.out BV.out P (by rw [HU.out, HK.out]; omega)
          rw [HSL.out] at rk2 kk2
          have R2 := Lib.hid rk2
          have K2 := Lib.hid kk2
          have hz : (k : Int) - 1 = (P : Int) := by omega
          have hw1 : IntKind.i64.wrap ((k : Int) - 1) = (P : Int) := by rw [IntWalk.i64_in _ (by omega)]; exact hz
          have hwq : IntKind.i64.wrap (P : Int) = (P : Int) := IntWalk.i64_in _ (by omega)
          have qc : (0 : Int) ≤ (P : Int) := by omega
          have qd : (P : Int) < (K : Int) := by omega
          have HPK := Lib.hid hPk
          clear hP hJe hJl rk2 kk2 hPk
          go_wp2
          go_loopw [92] (fun i wr => ∃ j : Nat, j ≤ J ∧ i = .int .i64 j ∧ Hid (x2.grownBy wr (some bd)) ∧ Hid (Game W0 wr bd la len cap)) (fun i _ => M - (intOf i).toNat)
          case atStart => exact ⟨0, Nat.zero_le _, rfl, gb_refl _ _, GM.out⟩
          case round =>
            obtain ⟨j, hj, rfl, gb, gm⟩ := hrel
            have hjM : j < M := by omega
            have hjMi : (j : Int) < (M : Int) := by omega
            have hj0 : (0 : Int) ≤ (j : Int) := by omega
            obtain ⟨g1, o1, rfl, -, hc1⟩ := (KK.out.far gb.out).1.rin.some (by rw [stL_len, HSL.out]; omega)
            obtain ⟨g2, o2, rfl, -, hc2⟩ := (K2.out.far gb.out).1.rin.some (by rw [stL_len, HSL.out]; omega)
            have e1 := cells_i hc1 j (by rw [stL_len, HSL.out]; exact hjM)
            have e2 := cells_i hc2 j (by rw [stL_len, HSL.out]; exact hjM)
            have r2 := gb.out.cell R2.out (by simpa using hgrb)
            rw [stL_at (by rw [HSL.out]; exact hjM)] at e1 e2
            obtain ⟨X, hX⟩ : ∃ x, stA (at0 S) S.length k j = x := ⟨_, rfl⟩
            obtain ⟨Y, hY⟩ : ∃ x, stA (at0 S) S.length P j = x := ⟨_, rfl⟩
            rw [hX] at e1
            rw [hY] at e2
            have HX := Lib.hid hX
            have HY := Lib.hid hY
            clear hc1 hc2 hX hY
            by_cases hjJ : j < J
            · have T4 : (X != Y) = false := by
                have : X = Y := by rw [← HX.out, ← HY.out]; exact (HJE.out j hjJ).symm
                simp [this]
              go_wp2
              go_quiet (fail)
              go_wp2
              go_roundw
              case rel => exact ⟨j + 1, by omega, by go_num, gb_drewN _ gb.out, gm.out.drewN _⟩
              case measure => simp [intOf]; omega
            · obtain rfl : J = j := by omega
              have hYX : Y < X := by rw [← HX.out, ← HY.out]; exact HJL.out
              have T4 : (X != Y) = true := bne_iff_ne.2 (by omega)
              have T5 : decide (Y < X) = true := decide_eq_true hYX
              have WG7 := Lib.hid (gb_tr WW.out gb.out)
              go_wp2
              go_quiet (fail)
              go_wp2
              go_quiet (fail)
              go_wp2
              go_roundw
              case rel => exact ⟨k + 1, by omega, by go_num, gb_drewN _ WG7.out, gm.out.drewN _⟩
              case measure => simp [intOf]; omega
      · obtain rfl : k = K := by omega
        have KM := Lib.hid (KM.out.far gb.out)
        clear gm gb
        go_wp2_with fail
        refine (unknown_is aM M cM S _ KM.out.1 h64).mono ?_
        rintro e x1 ⟨v, rfl, hv, bX⟩
        obtain ⟨au, cu, rfl, -, -⟩ := hv.lin
        rw [ints_len, HU.out]
        have GM := Lib.hid (GM.out.by_below bX)
        have hUK := HK.out
        clear hv bX
        rcases (show U = 0 ∨ U = 1 ∨ U = 2 ∨ U = 3 ∨ U = 4 ∨ U = 5 ∨ U = 6 by omega) with rfl | rfl | rfl | rfl | rfl | rfl | rfl
        all_goals (
          simp only [Nat.reducePow] at hUK
          subst hUK
          go_wp2_with fail
          refine (awake_is _ (H0.out.below GM.out.below).flg).mono ?_; rintro e x2 ⟨rfl, b4⟩
          have BZ := Lib.hid (GM.out.below.trans (b4.mono GM.out.below.size))
          clear b4
          go_wp2
          go_ret
          exact ⟨rfl, BZ.out⟩)
  · have t1 : decide ((len : Int) ≤ 400) = false := decide_eq_false (by omega)
    go_enter Tryd.func4, Tryd.ntmps4
    go_wp2_with fail
    refine (few_any _ _ _ _ hl).mono ?_; rintro e w' ⟨rfl, rfl⟩
    go_wp2_with fail
    refine (awake_is _ H0.out.flg).mono ?_; rintro e w4 ⟨rfl, b4⟩
    have BZ := Lib.hid b4
    clear b4
    go_wp2
    go_ret
    exact ⟨rfl, BZ.out⟩
end Go.Proofs.YtpobgdolhdlmeaaDoor.msk
