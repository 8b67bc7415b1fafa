/- For every list of numbers MaskMeets returns true: which states agree with the meeting and the joining of masks, and what Finer says of them. Condition: the table 'flags' holds what the program's text lays (the card ties that). -/
import Derived.Test.YtpobgdolhdlmeaaDoorMkK
import Derived.Test.YtpobgdolhdlmeaaDoorMkV
namespace Go.Proofs.YtpobgdolhdlmeaaDoor.msk
open Go.RowKit lex aggs kit net deck

set_option maxRecDepth 100000 in
set_option maxHeartbeats 16000000 in
theorem meets_walk (la : Option Addr) (len cap : Nat) (zs : List Int) (W0 : World) (hr : IsRow .i64 W0 la len cap zs) (h : Flg W0) :
    Calls Tryd.prog 5 #[.slice la len cap] W0 fun e w' => e = .returned (.bool true) ∧ Below W0.heap.size W0 w' := by
  have hl : len ≤ 9223372036854775807 := by
    rcases hr with ⟨_, h, _⟩ | ⟨_, _, h1, h2, _⟩
    · omega
    · unfold maxLen at h2; omega
  have H0 := Lib.hid h
  have HR := Lib.hid hr
  clear h hr
  by_cases h4 : len ≤ 400
  · have t1 : decide ((len : Int) ≤ 400) = true := decide_eq_true (by omega)
    go_enter Tryd.func5, Tryd.ntmps5
    go_wp2_with fail
    refine (few_any _ _ _ _ hl).mono ?_; rintro e w' ⟨rfl, rfl⟩
    go_wp2_with fail
    refine (newg_any _ _ _ _).mono ?_; rintro e w1 ⟨rfl, g1⟩
    have hbw := g1.lt
    obtain ⟨bd, hbd⟩ : ∃ b, W0.heap.size = b := ⟨_, rfl⟩
    have HB := Lib.hid hbd
    rw [hbd] at hbw g1 ⊢
    clear hbd h4 t1 hl
    go_wp2_with fail
    refine (network_is (nodes := 5) (devices := 7) g1 HR.out (by decide) (by decide) (by decide) (by decide)).mono ?_
    rintro e W2 ⟨vn, vd, ns, ds, rfl, g2, rn, rdd, gn, gd, n1, n2, d1, d2⟩
    obtain ⟨an, cn, ad, cd, rfl, rfl, ni, z1, z2⟩ := rows_net rn rdd (by omega) gn gd hbw
    obtain ⟨N, hN⟩ : ∃ N, ns.length = N := ⟨_, rfl⟩
    obtain ⟨M, hM⟩ : ∃ M, ds.length = M := ⟨_, rfl⟩
    rw [hN] at ni ⊢
    rw [hM] at d1 d2 ni ⊢
    have bx := below_box W2 (.cells #[.slice an N cn, .slice ad M cd] 26)
    have NT := Lib.hid (NtAt.new W2 (.slice an N cn) (.slice ad M cd) 26)
    have G3 := Lib.hid (g2.alloc (.cells #[.slice an N cn, .slice ad M cd] 26))
    have NF3 : Hid (NF (W2.alloc (.cells #[.slice an N cn, .slice ad M cd] 26)) bd an ad N cn M cd ns ds) := ⟨ni.below bx, z1, z2⟩
    have hb2 := g2.lt
    obtain ⟨g, hg⟩ : ∃ g, W2.heap.size = g := ⟨_, rfl⟩
    rw [hg] at NT hb2
    obtain ⟨W3, hW3⟩ : ∃ W3, W2.alloc (.cells #[.slice an N cn, .slice ad M cd] 26) = W3 := ⟨_, rfl⟩
    have hs3 : bd < W3.heap.size := by rw [← hW3]; simp; omega
    rw [hW3] at NT G3 NF3
    have hgb : g ≠ bd := by omega
    have k1 := NT.out.1
    have k2 := NT.out.2.1
    have gm0 := G3.out
    have gr0 := gb_refl W3 (some bd)
    clear rn rdd gn gd hN hM ni z1 z2 g1 g2 hbw bx n1 n2 hb2
    go_wp2_with fail
    (try rw [hW3])
    clear hW3 hg
    go_region_held3 (fun w' => w'.cell? ⟨g, 0, none⟩ = some (.slice an N cn) ∧ w'.cell? ⟨g, 1, none⟩ = some (.slice ad M cd) ∧ Game W0 w' bd la len cap ∧ W3.grownBy w' (some bd))
      (first | exact two_drew ⟨k1, k2, gm0, gr0⟩ | exact ⟨k1, k2, gm0, gr0⟩ | exact two_drew (by assumption) | exact two_keep (by assumption) hgb (by assumption) (by assumption) | exact two_drew (two_keep (by assumption) hgb (by assumption) (by assumption)) | go_keep)
      (first
        | (go_at_call 12; refine (masks_is (two_game (by assumption)).1 HR.out an ad N cn M cd ns ds (NF3.out.keep2 (two_game (by assumption)).2) (by omega) (by omega) 5 (by decide)).mono ?_; rintro e w7 ⟨v, S, rfl, own, hS, hSm, hSu, gm7, gb7⟩))
    rename_i wA vA A ownA hA hAm hAu gmA gbA hHeld
    obtain ⟨aA, cA, rfl, kA⟩ := OwnI.kept ownA (show bd < W3.heap.size from hs3)
    obtain ⟨aB, cB, rfl, kB⟩ := OwnI.kept own (Nat.lt_of_lt_of_le (show bd < W3.heap.size from hs3) gbA.size)
    rw [hA] at kA ⊢
    rw [hS] at kB ⊢
    have KA := Lib.hid (kA.far gb7)
    have KB := Lib.hid kB
    have GM := Lib.hid hHeld.2.2.1
    have WG := Lib.hid hHeld.2.2.2
    have ARE := Lib.hid (areB_iff.2 ⟨hA.trans hS.symm, hAm, hSm⟩)
    have HLA := Lib.hid hA
    obtain ⟨ok, hok⟩ : ∃ ok, meetB A S = ok := ⟨_, rfl⟩
    have HOK := Lib.hid hok
    obtain ⟨lM, hlM⟩ : ∃ l, (meetL A S).length = l := ⟨_, rfl⟩
    obtain ⟨lJ, hlJ⟩ : ∃ l, (joinL A S).length = l := ⟨_, rfl⟩
    have C0 := Lib.hid NT.out.1
    have C1 := Lib.hid NT.out.2.1
    have h64 : M ≤ 64 := by omega
    clear kA kB ownA own hA hS hAm hSm hAu hSu gmA gbA gm7 gb7 hHeld hok k1 k2 gm0 gr0 NT hs3 G3
    go_wp2_with fail
    refine (meet_is aA aB M cA M cB A S _ (H0.out.below GM.out.below) KA.out.1 KB.out.1 h64).mono ?_
    rintro e w8 ⟨v, rfl, hv, bX⟩
    have hv2 : OwnI w8 w7.heap.size v (meetL A S) := hv
    obtain ⟨aM, cM, rfl, kM⟩ := OwnI.kept hv2 GM.out.lt
    rw [hlM] at kM ⊢
    rw [HOK.out]
    have KM := Lib.hid kM
    clear hv hv2 kM
    have GM := Lib.hid (GM.out.by_below bX)
    have WG := Lib.hid (gb_be WG.out bX)
    have KA := Lib.hid (KA.out.below bX)
    have KB := Lib.hid (KB.out.below bX)
    clear bX
    go_wp2_with fail
    refine (meet_is aB aA M cB M cA S A _ (H0.out.below GM.out.below) KB.out.1 KA.out.1 h64).mono ?_
    rintro e w9 ⟨v, rfl, hv, bX⟩
    have hv2 : OwnI w9 w8.heap.size v (meetL S A) := hv
    rw [meetL_comm] at hv2
    obtain ⟨aO, cO, rfl, kO⟩ := OwnI.kept hv2 GM.out.lt
    rw [hlM] at kO ⊢
    rw [meetB_comm, HOK.out]
    have KO := Lib.hid kO
    clear hv hv2 kO
    have GM := Lib.hid (GM.out.by_below bX)
    have WG := Lib.hid (gb_be WG.out bX)
    have KA := Lib.hid (KA.out.below bX)
    have KB := Lib.hid (KB.out.below bX)
    have KM := Lib.hid (KM.out.below bX)
    clear bX
    go_wp2_with fail
    refine (join_is aA aB M cA M cB A S _ (H0.out.below GM.out.below) KA.out.1 KB.out.1 h64).mono ?_
    rintro e w10 ⟨v, rfl, hv, bX⟩
    have hv2 : OwnI w10 w9.heap.size v (joinL A S) := hv
    obtain ⟨aJ, cJ, rfl, kJ⟩ := OwnI.kept hv2 GM.out.lt
    rw [hlJ] at kJ ⊢
    have KJ := Lib.hid kJ
    clear hv hv2 kJ
    have GM := Lib.hid (GM.out.by_below bX)
    have WG := Lib.hid (gb_be WG.out bX)
    have KA := Lib.hid (KA.out.below bX)
    have KB := Lib.hid (KB.out.below bX)
    have KM := Lib.hid (KM.out.below bX)
    have KO := Lib.hid (KO.out.below bX)
    clear bX
    have HFJ1 := Lib.hid (fin_join ARE.out)
    have HFJ2 := Lib.hid (fin_join2 ARE.out)
    cases ok
    · skip
      go_wp2_with fail
      refine (ints_b aM aO lM cM lM cO _ _ true _ KM.out.1 KO.out.1 (decide_eq_true rfl)).mono ?_
      rintro e w11 ⟨rfl, bX⟩
      have GM := Lib.hid (GM.out.by_below bX)
      have WG := Lib.hid (gb_be WG.out bX)
      have KA := Lib.hid (KA.out.below bX)
      have KB := Lib.hid (KB.out.below bX)
      have KM := Lib.hid (KM.out.below bX)
      have KO := Lib.hid (KO.out.below bX)
      have KJ := Lib.hid (KJ.out.below bX)
      clear bX
      go_wp2_with fail
      refine (join_is aB aA M cB M cA S A _ (H0.out.below GM.out.below) KB.out.1 KA.out.1 h64).mono ?_
      rintro e w12 ⟨v, rfl, hv, bX⟩
      have hv2 : OwnI w12 w11.heap.size v (joinL S A) := hv
      rw [joinL_comm] at hv2
      obtain ⟨aI, cI, rfl, kI⟩ := OwnI.kept hv2 GM.out.lt
      rw [hlJ] at kI ⊢
      have KI := Lib.hid kI
      clear hv hv2 kI
      have GM := Lib.hid (GM.out.by_below bX)
      have WG := Lib.hid (gb_be WG.out bX)
      have KA := Lib.hid (KA.out.below bX)
      have KB := Lib.hid (KB.out.below bX)
      have KM := Lib.hid (KM.out.below bX)
      have KO := Lib.hid (KO.out.below bX)
      have KJ := Lib.hid (KJ.out.below bX)
      clear bX
      go_wp2_with fail
      refine (ints_b aJ aI lJ cJ lJ cI _ _ true _ KJ.out.1 KI.out.1 (decide_eq_true rfl)).mono ?_
      rintro e w13 ⟨rfl, bX⟩
      have GM := Lib.hid (GM.out.by_below bX)
      have WG := Lib.hid (gb_be WG.out bX)
      have KA := Lib.hid (KA.out.below bX)
      have KB := Lib.hid (KB.out.below bX)
      have KM := Lib.hid (KM.out.below bX)
      have KO := Lib.hid (KO.out.below bX)
      have KJ := Lib.hid (KJ.out.below bX)
      have KI := Lib.hid (KI.out.below bX)
      clear bX
      clear KI KO
      go_wp2_with fail
      refine (finer_b aA aJ M cA lJ cJ _ _ true _ (H0.out.below GM.out.below) KA.out.1 KJ.out.1 HFJ1.out).mono ?_
      rintro e w14 ⟨rfl, bX⟩
      have GM := Lib.hid (GM.out.by_below bX)
      have WG := Lib.hid (gb_be WG.out bX)
      have KA := Lib.hid (KA.out.below bX)
      have KB := Lib.hid (KB.out.below bX)
      have KM := Lib.hid (KM.out.below bX)
      have KJ := Lib.hid (KJ.out.below bX)
      clear bX
      go_wp2_with fail
      refine (finer_b aB aJ M cB lJ cJ _ _ true _ (H0.out.below GM.out.below) KB.out.1 KJ.out.1 HFJ2.out).mono ?_
      rintro e w15 ⟨rfl, bX⟩
      have GM := Lib.hid (GM.out.by_below bX)
      have WG := Lib.hid (gb_be WG.out bX)
      have KA := Lib.hid (KA.out.below bX)
      have KB := Lib.hid (KB.out.below bX)
      have KM := Lib.hid (KM.out.below bX)
      have KJ := Lib.hid (KJ.out.below bX)
      clear bX
      have HFI : Hid (finB A S = false) := by show _ = _; rw [fin_is ARE.out, HOK.out]; rfl
      go_wp2_with fail
      refine (finer_b aA aB M cA M cB _ _ false _ (H0.out.below GM.out.below) KA.out.1 KB.out.1 HFI.out).mono ?_
      rintro e w16 ⟨rfl, bX⟩
      have GM := Lib.hid (GM.out.by_below bX)
      have WG := Lib.hid (gb_be WG.out bX)
      have KA := Lib.hid (KA.out.below bX)
      have KB := Lib.hid (KB.out.below bX)
      have KM := Lib.hid (KM.out.below bX)
      have KJ := Lib.hid (KJ.out.below bX)
      clear bX
      go_wp2
      go_loopw [12] (fun i wr => ∃ k : Nat, k ≤ 6 ∧ i = .int .i64 k ∧ Hid (w16.grownBy wr (some bd)) ∧ Hid (Game W0 wr bd la len cap)) (fun i _ => 6 - (intOf i).toNat)
      case atStart => exact ⟨0, Nat.zero_le _, rfl, gb_refl _ _, GM.out⟩
      case round =>
        obtain ⟨k, hk, rfl, gb, gm⟩ := hrel
        by_cases hlt : k < 6
        · have hlt2 : (k : Int) < 6 := by omega
          have GM := Lib.hid gm.out
          have WGR := Lib.hid (gb_tr WG.out gb.out)
          have k1 := WGR.out.cell C0.out (by simpa using hgb)
          have k2 := WGR.out.cell C1.out (by simpa using hgb)
          have KA := Lib.hid (KA.out.far gb.out)
          have KB := Lib.hid (KB.out.far gb.out)
          have KM := Lib.hid (KM.out.far gb.out)
          have KJ := Lib.hid (KJ.out.far gb.out)
          go_wp2_with fail
          refine (state_is GM.out HR.out an ad N cn M cd ns ds (NF3.out.keep2 WGR.out) h64).mono ?_
          rintro e ws ⟨v, T, rfl, own, hT, hTa, gmS, gbS⟩
          obtain ⟨aS, cS, rfl, kS⟩ := OwnI.kept own GM.out.lt
          rw [hT] at kS ⊢
          have KS := Lib.hid kS
          have GM := Lib.hid gmS
          have WG := Lib.hid (gb_tr gb.out gbS)
          have KA := Lib.hid (KA.out.far gbS)
          have KB := Lib.hid (KB.out.far gbS)
          have KM := Lib.hid (KM.out.far gbS)
          have KJ := Lib.hid (KJ.out.far gbS)
          have hTi : ∀ i, i < T.length → 1 ≤ at0 T i ∧ at0 T i ≤ 2 := fun i hi => by rw [at0_get hi]; exact hTa _ (List.getElem_mem _)
          have BOTH := Lib.hid (agr_both hTi ARE.out (by rw [hT, HLA.out]))
          have JN := Lib.hid (agr_join hTi ARE.out (by rw [hT, HLA.out]))
          obtain ⟨x, hx⟩ : ∃ x, agrB T A = x := ⟨_, rfl⟩
          obtain ⟨y, hy⟩ : ∃ y, agrB T S = y := ⟨_, rfl⟩
          rw [hx, hy, HOK.out] at BOTH
          rw [hx, hy] at JN
          have HX := Lib.hid hx
          have HY := Lib.hid hy
          clear kS own hT hTa gmS gbS hTi hx hy k1 k2 gm gb
          cases x
          · cases y
            · skip
              go_wp2_with fail
              refine (agrees_b aS aA _ _ M cA _ _ false _ (H0.out.below GM.out.below) KS.out.1 KA.out.1 HX.out).mono ?_
              rintro e w101 ⟨rfl, bX⟩
              have GM := Lib.hid (GM.out.by_below bX)
              have WG := Lib.hid (gb_be WG.out bX)
              have KA := Lib.hid (KA.out.below bX)
              have KB := Lib.hid (KB.out.below bX)
              have KM := Lib.hid (KM.out.below bX)
              have KJ := Lib.hid (KJ.out.below bX)
              have KS := Lib.hid (KS.out.below bX)
              clear bX
              go_wp2_with fail
              refine (agrees_b aS aA _ _ M cA _ _ false _ (H0.out.below GM.out.below) KS.out.1 KA.out.1 HX.out).mono ?_
              rintro e w102 ⟨rfl, bX⟩
              have GM := Lib.hid (GM.out.by_below bX)
              have WG := Lib.hid (gb_be WG.out bX)
              have KA := Lib.hid (KA.out.below bX)
              have KB := Lib.hid (KB.out.below bX)
              have KM := Lib.hid (KM.out.below bX)
              have KJ := Lib.hid (KJ.out.below bX)
              have KS := Lib.hid (KS.out.below bX)
              clear bX
              go_wp2_with fail
              refine (agrees_b aS aB _ _ M cB _ _ false _ (H0.out.below GM.out.below) KS.out.1 KB.out.1 HY.out).mono ?_
              rintro e w103 ⟨rfl, bX⟩
              have GM := Lib.hid (GM.out.by_below bX)
              have WG := Lib.hid (gb_be WG.out bX)
              have KA := Lib.hid (KA.out.below bX)
              have KB := Lib.hid (KB.out.below bX)
              have KM := Lib.hid (KM.out.below bX)
              have KJ := Lib.hid (KJ.out.below bX)
              have KS := Lib.hid (KS.out.below bX)
              clear bX
              go_wp2
              go_roundw
              case rel => exact ⟨k + 1, by omega, by go_num, WG, GM⟩
              case measure => simp [intOf]; omega
            · skip
              go_wp2_with fail
              refine (agrees_b aS aA _ _ M cA _ _ false _ (H0.out.below GM.out.below) KS.out.1 KA.out.1 HX.out).mono ?_
              rintro e w101 ⟨rfl, bX⟩
              have GM := Lib.hid (GM.out.by_below bX)
              have WG := Lib.hid (gb_be WG.out bX)
              have KA := Lib.hid (KA.out.below bX)
              have KB := Lib.hid (KB.out.below bX)
              have KM := Lib.hid (KM.out.below bX)
              have KJ := Lib.hid (KJ.out.below bX)
              have KS := Lib.hid (KS.out.below bX)
              clear bX
              go_wp2_with fail
              refine (agrees_b aS aA _ _ M cA _ _ false _ (H0.out.below GM.out.below) KS.out.1 KA.out.1 HX.out).mono ?_
              rintro e w102 ⟨rfl, bX⟩
              have GM := Lib.hid (GM.out.by_below bX)
              have WG := Lib.hid (gb_be WG.out bX)
              have KA := Lib.hid (KA.out.below bX)
              have KB := Lib.hid (KB.out.below bX)
              have KM := Lib.hid (KM.out.below bX)
              have KJ := Lib.hid (KJ.out.below bX)
              have KS := Lib.hid (KS.out.below bX)
              clear bX
              go_wp2_with fail
              refine (agrees_b aS aB _ _ M cB _ _ true _ (H0.out.below GM.out.below) KS.out.1 KB.out.1 HY.out).mono ?_
              rintro e w103 ⟨rfl, bX⟩
              have GM := Lib.hid (GM.out.by_below bX)
              have WG := Lib.hid (gb_be WG.out bX)
              have KA := Lib.hid (KA.out.below bX)
              have KB := Lib.hid (KB.out.below bX)
              have KM := Lib.hid (KM.out.below bX)
              have KJ := Lib.hid (KJ.out.below bX)
              have KS := Lib.hid (KS.out.below bX)
              clear bX
              have HPJ := Lib.hid (JN.out (by simp))
              go_wp2_with fail
              refine (agrees_b aS aJ _ _ lJ cJ _ _ true _ (H0.out.below GM.out.below) KS.out.1 KJ.out.1 HPJ.out).mono ?_
              rintro e w104 ⟨rfl, bX⟩
              have GM := Lib.hid (GM.out.by_below bX)
              have WG := Lib.hid (gb_be WG.out bX)
              have KA := Lib.hid (KA.out.below bX)
              have KB := Lib.hid (KB.out.below bX)
              have KM := Lib.hid (KM.out.below bX)
              have KJ := Lib.hid (KJ.out.below bX)
              have KS := Lib.hid (KS.out.below bX)
              clear bX
              go_wp2
              go_roundw
              case rel => exact ⟨k + 1, by omega, by go_num, WG, GM⟩
              case measure => simp [intOf]; omega
          · cases y
            · skip
              go_wp2_with fail
              refine (agrees_b aS aA _ _ M cA _ _ true _ (H0.out.below GM.out.below) KS.out.1 KA.out.1 HX.out).mono ?_
              rintro e w101 ⟨rfl, bX⟩
              have GM := Lib.hid (GM.out.by_below bX)
              have WG := Lib.hid (gb_be WG.out bX)
              have KA := Lib.hid (KA.out.below bX)
              have KB := Lib.hid (KB.out.below bX)
              have KM := Lib.hid (KM.out.below bX)
              have KJ := Lib.hid (KJ.out.below bX)
              have KS := Lib.hid (KS.out.below bX)
              clear bX
              go_wp2_with fail
              refine (agrees_b aS aB _ _ M cB _ _ false _ (H0.out.below GM.out.below) KS.out.1 KB.out.1 HY.out).mono ?_
              rintro e w102 ⟨rfl, bX⟩
              have GM := Lib.hid (GM.out.by_below bX)
              have WG := Lib.hid (gb_be WG.out bX)
              have KA := Lib.hid (KA.out.below bX)
              have KB := Lib.hid (KB.out.below bX)
              have KM := Lib.hid (KM.out.below bX)
              have KJ := Lib.hid (KJ.out.below bX)
              have KS := Lib.hid (KS.out.below bX)
              clear bX
              go_wp2_with fail
              refine (agrees_b aS aA _ _ M cA _ _ true _ (H0.out.below GM.out.below) KS.out.1 KA.out.1 HX.out).mono ?_
              rintro e w103 ⟨rfl, bX⟩
              have GM := Lib.hid (GM.out.by_below bX)
              have WG := Lib.hid (gb_be WG.out bX)
              have KA := Lib.hid (KA.out.below bX)
              have KB := Lib.hid (KB.out.below bX)
              have KM := Lib.hid (KM.out.below bX)
              have KJ := Lib.hid (KJ.out.below bX)
              have KS := Lib.hid (KS.out.below bX)
              clear bX
              have HPJ := Lib.hid (JN.out (by simp))
              go_wp2_with fail
              refine (agrees_b aS aJ _ _ lJ cJ _ _ true _ (H0.out.below GM.out.below) KS.out.1 KJ.out.1 HPJ.out).mono ?_
              rintro e w104 ⟨rfl, bX⟩
              have GM := Lib.hid (GM.out.by_below bX)
              have WG := Lib.hid (gb_be WG.out bX)
              have KA := Lib.hid (KA.out.below bX)
              have KB := Lib.hid (KB.out.below bX)
              have KM := Lib.hid (KM.out.below bX)
              have KJ := Lib.hid (KJ.out.below bX)
              have KS := Lib.hid (KS.out.below bX)
              clear bX
              go_wp2
              go_roundw
              case rel => exact ⟨k + 1, by omega, by go_num, WG, GM⟩
              case measure => simp [intOf]; omega
            · skip
              have := BOTH.out; simp at this
        · obtain rfl : k = 6 := by omega
          have hcls := (H0.out.below gm.out.below)
          go_wp2_with fail
          refine (awake_is _ hcls).mono ?_; rintro e w4 ⟨rfl, b4⟩
          have BZ := Lib.hid (gm.out.below.trans (b4.mono gm.out.below.size))
          clear b4
          go_wp2
          go_ret
          exact ⟨rfl, BZ.out⟩
    · skip
      go_wp2_with fail
      refine (ints_b aM aO lM cM lM cO _ _ true _ KM.out.1 KO.out.1 (decide_eq_true rfl)).mono ?_
      rintro e w11 ⟨rfl, bX⟩
      have GM := Lib.hid (GM.out.by_below bX)
      have WG := Lib.hid (gb_be WG.out bX)
      have KA := Lib.hid (KA.out.below bX)
      have KB := Lib.hid (KB.out.below bX)
      have KM := Lib.hid (KM.out.below bX)
      have KO := Lib.hid (KO.out.below bX)
      have KJ := Lib.hid (KJ.out.below bX)
      clear bX
      go_wp2_with fail
      refine (join_is aB aA M cB M cA S A _ (H0.out.below GM.out.below) KB.out.1 KA.out.1 h64).mono ?_
      rintro e w12 ⟨v, rfl, hv, bX⟩
      have hv2 : OwnI w12 w11.heap.size v (joinL S A) := hv
      rw [joinL_comm] at hv2
      obtain ⟨aI, cI, rfl, kI⟩ := OwnI.kept hv2 GM.out.lt
      rw [hlJ] at kI ⊢
      have KI := Lib.hid kI
      clear hv hv2 kI
      have GM := Lib.hid (GM.out.by_below bX)
      have WG := Lib.hid (gb_be WG.out bX)
      have KA := Lib.hid (KA.out.below bX)
      have KB := Lib.hid (KB.out.below bX)
      have KM := Lib.hid (KM.out.below bX)
      have KO := Lib.hid (KO.out.below bX)
      have KJ := Lib.hid (KJ.out.below bX)
      clear bX
      go_wp2_with fail
      refine (ints_b aJ aI lJ cJ lJ cI _ _ true _ KJ.out.1 KI.out.1 (decide_eq_true rfl)).mono ?_
      rintro e w13 ⟨rfl, bX⟩
      have GM := Lib.hid (GM.out.by_below bX)
      have WG := Lib.hid (gb_be WG.out bX)
      have KA := Lib.hid (KA.out.below bX)
      have KB := Lib.hid (KB.out.below bX)
      have KM := Lib.hid (KM.out.below bX)
      have KO := Lib.hid (KO.out.below bX)
      have KJ := Lib.hid (KJ.out.below bX)
      have KI := Lib.hid (KI.out.below bX)
      clear bX
      clear KI KO
      go_wp2_with fail
      refine (finer_b aA aJ M cA lJ cJ _ _ true _ (H0.out.below GM.out.below) KA.out.1 KJ.out.1 HFJ1.out).mono ?_
      rintro e w14 ⟨rfl, bX⟩
      have GM := Lib.hid (GM.out.by_below bX)
      have WG := Lib.hid (gb_be WG.out bX)
      have KA := Lib.hid (KA.out.below bX)
      have KB := Lib.hid (KB.out.below bX)
      have KM := Lib.hid (KM.out.below bX)
      have KJ := Lib.hid (KJ.out.below bX)
      clear bX
      go_wp2_with fail
      refine (finer_b aB aJ M cB lJ cJ _ _ true _ (H0.out.below GM.out.below) KB.out.1 KJ.out.1 HFJ2.out).mono ?_
      rintro e w15 ⟨rfl, bX⟩
      have GM := Lib.hid (GM.out.by_below bX)
      have WG := Lib.hid (gb_be WG.out bX)
      have KA := Lib.hid (KA.out.below bX)
      have KB := Lib.hid (KB.out.below bX)
      have KM := Lib.hid (KM.out.below bX)
      have KJ := Lib.hid (KJ.out.below bX)
      clear bX
      have HM1 := Lib.hid (fin_meet HOK.out)
      have HM2 := Lib.hid (fin_meet2 HOK.out)
      go_wp2_with fail
      refine (finer_b aM aA lM cM M cA _ _ true _ (H0.out.below GM.out.below) KM.out.1 KA.out.1 HM1.out).mono ?_
      rintro e w16 ⟨rfl, bX⟩
      have GM := Lib.hid (GM.out.by_below bX)
      have WG := Lib.hid (gb_be WG.out bX)
      have KA := Lib.hid (KA.out.below bX)
      have KB := Lib.hid (KB.out.below bX)
      have KM := Lib.hid (KM.out.below bX)
      have KJ := Lib.hid (KJ.out.below bX)
      clear bX
      go_wp2_with fail
      refine (finer_b aM aB lM cM M cB _ _ true _ (H0.out.below GM.out.below) KM.out.1 KB.out.1 HM2.out).mono ?_
      rintro e w17 ⟨rfl, bX⟩
      have GM := Lib.hid (GM.out.by_below bX)
      have WG := Lib.hid (gb_be WG.out bX)
      have KA := Lib.hid (KA.out.below bX)
      have KB := Lib.hid (KB.out.below bX)
      have KM := Lib.hid (KM.out.below bX)
      have KJ := Lib.hid (KJ.out.below bX)
      clear bX
      obtain ⟨r, hr⟩ : ∃ r, decide (meetL A S = A) = r := ⟨_, rfl⟩
      have HRR := Lib.hid hr
      have HFI : Hid (finB A S = r) := by show _ = _; rw [fin_is ARE.out, HOK.out, hr]; rfl
      clear hr
      go_wp2_with fail
      refine (finer_b aA aB M cA M cB _ _ r _ (H0.out.below GM.out.below) KA.out.1 KB.out.1 HFI.out).mono ?_
      rintro e w18 ⟨rfl, bX⟩
      have GM := Lib.hid (GM.out.by_below bX)
      have WG := Lib.hid (gb_be WG.out bX)
      have KA := Lib.hid (KA.out.below bX)
      have KB := Lib.hid (KB.out.below bX)
      have KM := Lib.hid (KM.out.below bX)
      have KJ := Lib.hid (KJ.out.below bX)
      clear bX
      go_wp2_with fail
      refine (ints_b aM aA lM cM M cA _ _ r _ KM.out.1 KA.out.1 HRR.out).mono ?_
      rintro e w19 ⟨rfl, bX⟩
      have GM := Lib.hid (GM.out.by_below bX)
      have WG := Lib.hid (gb_be WG.out bX)
      have KA := Lib.hid (KA.out.below bX)
      have KB := Lib.hid (KB.out.below bX)
      have KM := Lib.hid (KM.out.below bX)
      have KJ := Lib.hid (KJ.out.below bX)
      clear bX
      cases r
      · skip
        go_wp2
        go_loopw [12] (fun i wr => ∃ k : Nat, k ≤ 6 ∧ i = .int .i64 k ∧ Hid (w19.grownBy wr (some bd)) ∧ Hid (Game W0 wr bd la len cap)) (fun i _ => 6 - (intOf i).toNat)
        case atStart => exact ⟨0, Nat.zero_le _, rfl, gb_refl _ _, GM.out⟩
        case round =>
          obtain ⟨k, hk, rfl, gb, gm⟩ := hrel
          by_cases hlt : k < 6
          · have hlt2 : (k : Int) < 6 := by omega
            have GM := Lib.hid gm.out
            have WGR := Lib.hid (gb_tr WG.out gb.out)
            have k1 := WGR.out.cell C0.out (by simpa using hgb)
            have k2 := WGR.out.cell C1.out (by simpa using hgb)
            have KA := Lib.hid (KA.out.far gb.out)
            have KB := Lib.hid (KB.out.far gb.out)
            have KM := Lib.hid (KM.out.far gb.out)
            have KJ := Lib.hid (KJ.out.far gb.out)
            go_wp2_with fail
            refine (state_is GM.out HR.out an ad N cn M cd ns ds (NF3.out.keep2 WGR.out) h64).mono ?_
            rintro e ws ⟨v, T, rfl, own, hT, hTa, gmS, gbS⟩
            obtain ⟨aS, cS, rfl, kS⟩ := OwnI.kept own GM.out.lt
            rw [hT] at kS ⊢
            have KS := Lib.hid kS
            have GM := Lib.hid gmS
            have WG := Lib.hid (gb_tr gb.out gbS)
            have KA := Lib.hid (KA.out.far gbS)
            have KB := Lib.hid (KB.out.far gbS)
            have KM := Lib.hid (KM.out.far gbS)
            have KJ := Lib.hid (KJ.out.far gbS)
            have hTi : ∀ i, i < T.length → 1 ≤ at0 T i ∧ at0 T i ≤ 2 := fun i hi => by rw [at0_get hi]; exact hTa _ (List.getElem_mem _)
            have BOTH := Lib.hid (agr_both hTi ARE.out (by rw [hT, HLA.out]))
            have JN := Lib.hid (agr_join hTi ARE.out (by rw [hT, HLA.out]))
            obtain ⟨x, hx⟩ : ∃ x, agrB T A = x := ⟨_, rfl⟩
            obtain ⟨y, hy⟩ : ∃ y, agrB T S = y := ⟨_, rfl⟩
            rw [hx, hy, HOK.out] at BOTH
            rw [hx, hy] at JN
            have HX := Lib.hid hx
            have HY := Lib.hid hy
            clear kS own hT hTa gmS gbS hTi hx hy k1 k2 gm gb
            cases x
            · cases y
              · skip
                have HPM : Hid (agrB T (meetL A S) = false) := by show _ = _; have := BOTH.out; simpa using this.symm
                go_wp2_with fail
                refine (agrees_b aS aA _ _ M cA _ _ false _ (H0.out.below GM.out.below) KS.out.1 KA.out.1 HX.out).mono ?_
                rintro e w101 ⟨rfl, bX⟩
                have GM := Lib.hid (GM.out.by_below bX)
                have WG := Lib.hid (gb_be WG.out bX)
                have KA := Lib.hid (KA.out.below bX)
                have KB := Lib.hid (KB.out.below bX)
                have KM := Lib.hid (KM.out.below bX)
                have KJ := Lib.hid (KJ.out.below bX)
                have KS := Lib.hid (KS.out.below bX)
                clear bX
                go_wp2_with fail
                refine (agrees_b aS aM _ _ lM cM _ _ false _ (H0.out.below GM.out.below) KS.out.1 KM.out.1 HPM.out).mono ?_
                rintro e w102 ⟨rfl, bX⟩
                have GM := Lib.hid (GM.out.by_below bX)
                have WG := Lib.hid (gb_be WG.out bX)
                have KA := Lib.hid (KA.out.below bX)
                have KB := Lib.hid (KB.out.below bX)
                have KM := Lib.hid (KM.out.below bX)
                have KJ := Lib.hid (KJ.out.below bX)
                have KS := Lib.hid (KS.out.below bX)
                clear bX
                go_wp2_with fail
                refine (agrees_b aS aA _ _ M cA _ _ false _ (H0.out.below GM.out.below) KS.out.1 KA.out.1 HX.out).mono ?_
                rintro e w103 ⟨rfl, bX⟩
                have GM := Lib.hid (GM.out.by_below bX)
                have WG := Lib.hid (gb_be WG.out bX)
                have KA := Lib.hid (KA.out.below bX)
                have KB := Lib.hid (KB.out.below bX)
                have KM := Lib.hid (KM.out.below bX)
                have KJ := Lib.hid (KJ.out.below bX)
                have KS := Lib.hid (KS.out.below bX)
                clear bX
                go_wp2_with fail
                refine (agrees_b aS aB _ _ M cB _ _ false _ (H0.out.below GM.out.below) KS.out.1 KB.out.1 HY.out).mono ?_
                rintro e w104 ⟨rfl, bX⟩
                have GM := Lib.hid (GM.out.by_below bX)
                have WG := Lib.hid (gb_be WG.out bX)
                have KA := Lib.hid (KA.out.below bX)
                have KB := Lib.hid (KB.out.below bX)
                have KM := Lib.hid (KM.out.below bX)
                have KJ := Lib.hid (KJ.out.below bX)
                have KS := Lib.hid (KS.out.below bX)
                clear bX
                go_wp2
                go_roundw
                case rel => exact ⟨k + 1, by omega, by go_num, WG, GM⟩
                case measure => simp [intOf]; omega
              · skip
                have HPM : Hid (agrB T (meetL A S) = false) := by show _ = _; have := BOTH.out; simpa using this.symm
                go_wp2_with fail
                refine (agrees_b aS aA _ _ M cA _ _ false _ (H0.out.below GM.out.below) KS.out.1 KA.out.1 HX.out).mono ?_
                rintro e w101 ⟨rfl, bX⟩
                have GM := Lib.hid (GM.out.by_below bX)
                have WG := Lib.hid (gb_be WG.out bX)
                have KA := Lib.hid (KA.out.below bX)
                have KB := Lib.hid (KB.out.below bX)
                have KM := Lib.hid (KM.out.below bX)
                have KJ := Lib.hid (KJ.out.below bX)
                have KS := Lib.hid (KS.out.below bX)
                clear bX
                go_wp2_with fail
                refine (agrees_b aS aM _ _ lM cM _ _ false _ (H0.out.below GM.out.below) KS.out.1 KM.out.1 HPM.out).mono ?_
                rintro e w102 ⟨rfl, bX⟩
                have GM := Lib.hid (GM.out.by_below bX)
                have WG := Lib.hid (gb_be WG.out bX)
                have KA := Lib.hid (KA.out.below bX)
                have KB := Lib.hid (KB.out.below bX)
                have KM := Lib.hid (KM.out.below bX)
                have KJ := Lib.hid (KJ.out.below bX)
                have KS := Lib.hid (KS.out.below bX)
                clear bX
                go_wp2_with fail
                refine (agrees_b aS aA _ _ M cA _ _ false _ (H0.out.below GM.out.below) KS.out.1 KA.out.1 HX.out).mono ?_
                rintro e w103 ⟨rfl, bX⟩
                have GM := Lib.hid (GM.out.by_below bX)
                have WG := Lib.hid (gb_be WG.out bX)
                have KA := Lib.hid (KA.out.below bX)
                have KB := Lib.hid (KB.out.below bX)
                have KM := Lib.hid (KM.out.below bX)
                have KJ := Lib.hid (KJ.out.below bX)
                have KS := Lib.hid (KS.out.below bX)
                clear bX
                go_wp2_with fail
                refine (agrees_b aS aB _ _ M cB _ _ true _ (H0.out.below GM.out.below) KS.out.1 KB.out.1 HY.out).mono ?_
                rintro e w104 ⟨rfl, bX⟩
                have GM := Lib.hid (GM.out.by_below bX)
                have WG := Lib.hid (gb_be WG.out bX)
                have KA := Lib.hid (KA.out.below bX)
                have KB := Lib.hid (KB.out.below bX)
                have KM := Lib.hid (KM.out.below bX)
                have KJ := Lib.hid (KJ.out.below bX)
                have KS := Lib.hid (KS.out.below bX)
                clear bX
                have HPJ := Lib.hid (JN.out (by simp))
                go_wp2_with fail
                refine (agrees_b aS aJ _ _ lJ cJ _ _ true _ (H0.out.below GM.out.below) KS.out.1 KJ.out.1 HPJ.out).mono ?_
                rintro e w105 ⟨rfl, bX⟩
                have GM := Lib.hid (GM.out.by_below bX)
                have WG := Lib.hid (gb_be WG.out bX)
                have KA := Lib.hid (KA.out.below bX)
                have KB := Lib.hid (KB.out.below bX)
                have KM := Lib.hid (KM.out.below bX)
                have KJ := Lib.hid (KJ.out.below bX)
                have KS := Lib.hid (KS.out.below bX)
                clear bX
                go_wp2
                go_roundw
                case rel => exact ⟨k + 1, by omega, by go_num, WG, GM⟩
                case measure => simp [intOf]; omega
            · cases y
              · skip
                have HPM : Hid (agrB T (meetL A S) = false) := by show _ = _; have := BOTH.out; simpa using this.symm
                go_wp2_with fail
                refine (agrees_b aS aA _ _ M cA _ _ true _ (H0.out.below GM.out.below) KS.out.1 KA.out.1 HX.out).mono ?_
                rintro e w101 ⟨rfl, bX⟩
                have GM := Lib.hid (GM.out.by_below bX)
                have WG := Lib.hid (gb_be WG.out bX)
                have KA := Lib.hid (KA.out.below bX)
                have KB := Lib.hid (KB.out.below bX)
                have KM := Lib.hid (KM.out.below bX)
                have KJ := Lib.hid (KJ.out.below bX)
                have KS := Lib.hid (KS.out.below bX)
                clear bX
                go_wp2_with fail
                refine (agrees_b aS aB _ _ M cB _ _ false _ (H0.out.below GM.out.below) KS.out.1 KB.out.1 HY.out).mono ?_
                rintro e w102 ⟨rfl, bX⟩
                have GM := Lib.hid (GM.out.by_below bX)
                have WG := Lib.hid (gb_be WG.out bX)
                have KA := Lib.hid (KA.out.below bX)
                have KB := Lib.hid (KB.out.below bX)
                have KM := Lib.hid (KM.out.below bX)
                have KJ := Lib.hid (KJ.out.below bX)
                have KS := Lib.hid (KS.out.below bX)
                clear bX
                go_wp2_with fail
                refine (agrees_b aS aM _ _ lM cM _ _ false _ (H0.out.below GM.out.below) KS.out.1 KM.out.1 HPM.out).mono ?_
                rintro e w103 ⟨rfl, bX⟩
                have GM := Lib.hid (GM.out.by_below bX)
                have WG := Lib.hid (gb_be WG.out bX)
                have KA := Lib.hid (KA.out.below bX)
                have KB := Lib.hid (KB.out.below bX)
                have KM := Lib.hid (KM.out.below bX)
                have KJ := Lib.hid (KJ.out.below bX)
                have KS := Lib.hid (KS.out.below bX)
                clear bX
                go_wp2_with fail
                refine (agrees_b aS aA _ _ M cA _ _ true _ (H0.out.below GM.out.below) KS.out.1 KA.out.1 HX.out).mono ?_
                rintro e w104 ⟨rfl, bX⟩
                have GM := Lib.hid (GM.out.by_below bX)
                have WG := Lib.hid (gb_be WG.out bX)
                have KA := Lib.hid (KA.out.below bX)
                have KB := Lib.hid (KB.out.below bX)
                have KM := Lib.hid (KM.out.below bX)
                have KJ := Lib.hid (KJ.out.below bX)
                have KS := Lib.hid (KS.out.below bX)
                clear bX
                have HPJ := Lib.hid (JN.out (by simp))
                go_wp2_with fail
                refine (agrees_b aS aJ _ _ lJ cJ _ _ true _ (H0.out.below GM.out.below) KS.out.1 KJ.out.1 HPJ.out).mono ?_
                rintro e w105 ⟨rfl, bX⟩
                have GM := Lib.hid (GM.out.by_below bX)
                have WG := Lib.hid (gb_be WG.out bX)
                have KA := Lib.hid (KA.out.below bX)
                have KB := Lib.hid (KB.out.below bX)
                have KM := Lib.hid (KM.out.below bX)
                have KJ := Lib.hid (KJ.out.below bX)
                have KS := Lib.hid (KS.out.below bX)
                clear bX
                go_wp2
                go_roundw
                case rel => exact ⟨k + 1, by omega, by go_num, WG, GM⟩
                case measure => simp [intOf]; omega
              · skip
                have HPM : Hid (agrB T (meetL A S) = true) := by show _ = _; have := BOTH.out; simpa using this.symm
                go_wp2_with fail
                refine (agrees_b aS aA _ _ M cA _ _ true _ (H0.out.below GM.out.below) KS.out.1 KA.out.1 HX.out).mono ?_
                rintro e w101 ⟨rfl, bX⟩
                have GM := Lib.hid (GM.out.by_below bX)
                have WG := Lib.hid (gb_be WG.out bX)
                have KA := Lib.hid (KA.out.below bX)
                have KB := Lib.hid (KB.out.below bX)
                have KM := Lib.hid (KM.out.below bX)
                have KJ := Lib.hid (KJ.out.below bX)
                have KS := Lib.hid (KS.out.below bX)
                clear bX
                go_wp2_with fail
                refine (agrees_b aS aB _ _ M cB _ _ true _ (H0.out.below GM.out.below) KS.out.1 KB.out.1 HY.out).mono ?_
                rintro e w102 ⟨rfl, bX⟩
                have GM := Lib.hid (GM.out.by_below bX)
                have WG := Lib.hid (gb_be WG.out bX)
                have KA := Lib.hid (KA.out.below bX)
                have KB := Lib.hid (KB.out.below bX)
                have KM := Lib.hid (KM.out.below bX)
                have KJ := Lib.hid (KJ.out.below bX)
                have KS := Lib.hid (KS.out.below bX)
                clear bX
                go_wp2_with fail
                refine (agrees_b aS aM _ _ lM cM _ _ true _ (H0.out.below GM.out.below) KS.out.1 KM.out.1 HPM.out).mono ?_
                rintro e w103 ⟨rfl, bX⟩
                have GM := Lib.hid (GM.out.by_below bX)
                have WG := Lib.hid (gb_be WG.out bX)
                have KA := Lib.hid (KA.out.below bX)
                have KB := Lib.hid (KB.out.below bX)
                have KM := Lib.hid (KM.out.below bX)
                have KJ := Lib.hid (KJ.out.below bX)
                have KS := Lib.hid (KS.out.below bX)
                clear bX
                go_wp2_with fail
                refine (agrees_b aS aA _ _ M cA _ _ true _ (H0.out.below GM.out.below) KS.out.1 KA.out.1 HX.out).mono ?_
                rintro e w104 ⟨rfl, bX⟩
                have GM := Lib.hid (GM.out.by_below bX)
                have WG := Lib.hid (gb_be WG.out bX)
                have KA := Lib.hid (KA.out.below bX)
                have KB := Lib.hid (KB.out.below bX)
                have KM := Lib.hid (KM.out.below bX)
                have KJ := Lib.hid (KJ.out.below bX)
                have KS := Lib.hid (KS.out.below bX)
                clear bX
                have HPJ := Lib.hid (JN.out (by simp))
                go_wp2_with fail
                refine (agrees_b aS aJ _ _ lJ cJ _ _ true _ (H0.out.below GM.out.below) KS.out.1 KJ.out.1 HPJ.out).mono ?_
                rintro e w105 ⟨rfl, bX⟩
                have GM := Lib.hid (GM.out.by_below bX)
                have WG := Lib.hid (gb_be WG.out bX)
                have KA := Lib.hid (KA.out.below bX)
                have KB := Lib.hid (KB.out.below bX)
                have KM := Lib.hid (KM.out.below bX)
                have KJ := Lib.hid (KJ.out.below bX)
                have KS := Lib.hid (KS.out.below bX)
                clear bX
                go_wp2
                go_roundw
                case rel => exact ⟨k + 1, by omega, by go_num, WG, GM⟩
                case measure => simp [intOf]; omega
          · obtain rfl : k = 6 := by omega
            have hcls := (H0.out.below gm.out.below)
            go_wp2_with fail
            refine (awake_is _ hcls).mono ?_; rintro e w4 ⟨rfl, b4⟩
            have BZ := Lib.hid (gm.out.below.trans (b4.mono gm.out.below.size))
            clear b4
            go_wp2
            go_ret
            exact ⟨rfl, BZ.out⟩
      · skip
        go_wp2
        go_loopw [12] (fun i wr => ∃ k : Nat, k ≤ 6 ∧ i = .int .i64 k ∧ Hid (w19.grownBy wr (some bd)) ∧ Hid (Game W0 wr bd la len cap)) (fun i _ => 6 - (intOf i).toNat)
        case atStart => exact ⟨0, Nat.zero_le _, rfl, gb_refl _ _, GM.out⟩
        case round =>
          obtain ⟨k, hk, rfl, gb, gm⟩ := hrel
          by_cases hlt : k < 6
          · have hlt2 : (k : Int) < 6 := by omega
            have GM := Lib.hid gm.out
            have WGR := Lib.hid (gb_tr WG.out gb.out)
            have k1 := WGR.out.cell C0.out (by simpa using hgb)
            have k2 := WGR.out.cell C1.out (by simpa using hgb)
            have KA := Lib.hid (KA.out.far gb.out)
            have KB := Lib.hid (KB.out.far gb.out)
            have KM := Lib.hid (KM.out.far gb.out)
            have KJ := Lib.hid (KJ.out.far gb.out)
            go_wp2_with fail
            refine (state_is GM.out HR.out an ad N cn M cd ns ds (NF3.out.keep2 WGR.out) h64).mono ?_
            rintro e ws ⟨v, T, rfl, own, hT, hTa, gmS, gbS⟩
            obtain ⟨aS, cS, rfl, kS⟩ := OwnI.kept own GM.out.lt
            rw [hT] at kS ⊢
            have KS := Lib.hid kS
            have GM := Lib.hid gmS
            have WG := Lib.hid (gb_tr gb.out gbS)
            have KA := Lib.hid (KA.out.far gbS)
            have KB := Lib.hid (KB.out.far gbS)
            have KM := Lib.hid (KM.out.far gbS)
            have KJ := Lib.hid (KJ.out.far gbS)
            have hTi : ∀ i, i < T.length → 1 ≤ at0 T i ∧ at0 T i ≤ 2 := fun i hi => by rw [at0_get hi]; exact hTa _ (List.getElem_mem _)
            have BOTH := Lib.hid (agr_both hTi ARE.out (by rw [hT, HLA.out]))
            have JN := Lib.hid (agr_join hTi ARE.out (by rw [hT, HLA.out]))
            obtain ⟨x, hx⟩ : ∃ x, agrB T A = x := ⟨_, rfl⟩
            obtain ⟨y, hy⟩ : ∃ y, agrB T S = y := ⟨_, rfl⟩
            rw [hx, hy, HOK.out] at BOTH
            rw [hx, hy] at JN
            have HX := Lib.hid hx
            have HY := Lib.hid hy
            clear kS own hT hTa gmS gbS hTi hx hy k1 k2 gm gb
            cases x
            · cases y
              · skip
                have HPM : Hid (agrB T (meetL A S) = false) := by show _ = _; have := BOTH.out; simpa using this.symm
                go_wp2_with fail
                refine (agrees_b aS aA _ _ M cA _ _ false _ (H0.out.below GM.out.below) KS.out.1 KA.out.1 HX.out).mono ?_
                rintro e w101 ⟨rfl, bX⟩
                have GM := Lib.hid (GM.out.by_below bX)
                have WG := Lib.hid (gb_be WG.out bX)
                have KA := Lib.hid (KA.out.below bX)
                have KB := Lib.hid (KB.out.below bX)
                have KM := Lib.hid (KM.out.below bX)
                have KJ := Lib.hid (KJ.out.below bX)
                have KS := Lib.hid (KS.out.below bX)
                clear bX
                go_wp2_with fail
                refine (agrees_b aS aM _ _ lM cM _ _ false _ (H0.out.below GM.out.below) KS.out.1 KM.out.1 HPM.out).mono ?_
                rintro e w102 ⟨rfl, bX⟩
                have GM := Lib.hid (GM.out.by_below bX)
                have WG := Lib.hid (gb_be WG.out bX)
                have KA := Lib.hid (KA.out.below bX)
                have KB := Lib.hid (KB.out.below bX)
                have KM := Lib.hid (KM.out.below bX)
                have KJ := Lib.hid (KJ.out.below bX)
                have KS := Lib.hid (KS.out.below bX)
                clear bX
                go_wp2_with fail
                refine (agrees_b aS aA _ _ M cA _ _ false _ (H0.out.below GM.out.below) KS.out.1 KA.out.1 HX.out).mono ?_
                rintro e w103 ⟨rfl, bX⟩
                have GM := Lib.hid (GM.out.by_below bX)
                have WG := Lib.hid (gb_be WG.out bX)
                have KA := Lib.hid (KA.out.below bX)
                have KB := Lib.hid (KB.out.below bX)
                have KM := Lib.hid (KM.out.below bX)
                have KJ := Lib.hid (KJ.out.below bX)
                have KS := Lib.hid (KS.out.below bX)
                clear bX
                go_wp2_with fail
                refine (agrees_b aS aB _ _ M cB _ _ false _ (H0.out.below GM.out.below) KS.out.1 KB.out.1 HY.out).mono ?_
                rintro e w104 ⟨rfl, bX⟩
                have GM := Lib.hid (GM.out.by_below bX)
                have WG := Lib.hid (gb_be WG.out bX)
                have KA := Lib.hid (KA.out.below bX)
                have KB := Lib.hid (KB.out.below bX)
                have KM := Lib.hid (KM.out.below bX)
                have KJ := Lib.hid (KJ.out.below bX)
                have KS := Lib.hid (KS.out.below bX)
                clear bX
                go_wp2
                go_roundw
                case rel => exact ⟨k + 1, by omega, by go_num, WG, GM⟩
                case measure => simp [intOf]; omega
              · skip
                have HPM : Hid (agrB T (meetL A S) = false) := by show _ = _; have := BOTH.out; simpa using this.symm
                go_wp2_with fail
                refine (agrees_b aS aA _ _ M cA _ _ false _ (H0.out.below GM.out.below) KS.out.1 KA.out.1 HX.out).mono ?_
                rintro e w101 ⟨rfl, bX⟩
                have GM := Lib.hid (GM.out.by_below bX)
                have WG := Lib.hid (gb_be WG.out bX)
                have KA := Lib.hid (KA.out.below bX)
                have KB := Lib.hid (KB.out.below bX)
                have KM := Lib.hid (KM.out.below bX)
                have KJ := Lib.hid (KJ.out.below bX)
                have KS := Lib.hid (KS.out.below bX)
                clear bX
                go_wp2_with fail
                refine (agrees_b aS aM _ _ lM cM _ _ false _ (H0.out.below GM.out.below) KS.out.1 KM.out.1 HPM.out).mono ?_
                rintro e w102 ⟨rfl, bX⟩
                have GM := Lib.hid (GM.out.by_below bX)
                have WG := Lib.hid (gb_be WG.out bX)
                have KA := Lib.hid (KA.out.below bX)
                have KB := Lib.hid (KB.out.below bX)
                have KM := Lib.hid (KM.out.below bX)
                have KJ := Lib.hid (KJ.out.below bX)
                have KS := Lib.hid (KS.out.below bX)
                clear bX
                go_wp2_with fail
                refine (agrees_b aS aA _ _ M cA _ _ false _ (H0.out.below GM.out.below) KS.out.1 KA.out.1 HX.out).mono ?_
                rintro e w103 ⟨rfl, bX⟩
                have GM := Lib.hid (GM.out.by_below bX)
                have WG := Lib.hid (gb_be WG.out bX)
                have KA := Lib.hid (KA.out.below bX)
                have KB := Lib.hid (KB.out.below bX)
                have KM := Lib.hid (KM.out.below bX)
                have KJ := Lib.hid (KJ.out.below bX)
                have KS := Lib.hid (KS.out.below bX)
                clear bX
                go_wp2_with fail
                refine (agrees_b aS aB _ _ M cB _ _ true _ (H0.out.below GM.out.below) KS.out.1 KB.out.1 HY.out).mono ?_
                rintro e w104 ⟨rfl, bX⟩
                have GM := Lib.hid (GM.out.by_below bX)
                have WG := Lib.hid (gb_be WG.out bX)
                have KA := Lib.hid (KA.out.below bX)
                have KB := Lib.hid (KB.out.below bX)
                have KM := Lib.hid (KM.out.below bX)
                have KJ := Lib.hid (KJ.out.below bX)
                have KS := Lib.hid (KS.out.below bX)
                clear bX
                have HPJ := Lib.hid (JN.out (by simp))
                go_wp2_with fail
                refine (agrees_b aS aJ _ _ lJ cJ _ _ true _ (H0.out.below GM.out.below) KS.out.1 KJ.out.1 HPJ.out).mono ?_
                rintro e w105 ⟨rfl, bX⟩
                have GM := Lib.hid (GM.out.by_below bX)
                have WG := Lib.hid (gb_be WG.out bX)
                have KA := Lib.hid (KA.out.below bX)
                have KB := Lib.hid (KB.out.below bX)
                have KM := Lib.hid (KM.out.below bX)
                have KJ := Lib.hid (KJ.out.below bX)
                have KS := Lib.hid (KS.out.below bX)
                clear bX
                go_wp2
                go_roundw
                case rel => exact ⟨k + 1, by omega, by go_num, WG, GM⟩
                case measure => simp [intOf]; omega
            · cases y
              · skip
                have HPM : Hid (agrB T (meetL A S) = false) := by show _ = _; have := BOTH.out; simpa using this.symm
                go_wp2_with fail
                refine (agrees_b aS aA _ _ M cA _ _ true _ (H0.out.below GM.out.below) KS.out.1 KA.out.1 HX.out).mono ?_
                rintro e w101 ⟨rfl, bX⟩
                have GM := Lib.hid (GM.out.by_below bX)
                have WG := Lib.hid (gb_be WG.out bX)
                have KA := Lib.hid (KA.out.below bX)
                have KB := Lib.hid (KB.out.below bX)
                have KM := Lib.hid (KM.out.below bX)
                have KJ := Lib.hid (KJ.out.below bX)
                have KS := Lib.hid (KS.out.below bX)
                clear bX
                go_wp2_with fail
                refine (agrees_b aS aB _ _ M cB _ _ false _ (H0.out.below GM.out.below) KS.out.1 KB.out.1 HY.out).mono ?_
                rintro e w102 ⟨rfl, bX⟩
                have GM := Lib.hid (GM.out.by_below bX)
                have WG := Lib.hid (gb_be WG.out bX)
                have KA := Lib.hid (KA.out.below bX)
                have KB := Lib.hid (KB.out.below bX)
                have KM := Lib.hid (KM.out.below bX)
                have KJ := Lib.hid (KJ.out.below bX)
                have KS := Lib.hid (KS.out.below bX)
                clear bX
                go_wp2_with fail
                refine (agrees_b aS aM _ _ lM cM _ _ false _ (H0.out.below GM.out.below) KS.out.1 KM.out.1 HPM.out).mono ?_
                rintro e w103 ⟨rfl, bX⟩
                have GM := Lib.hid (GM.out.by_below bX)
                have WG := Lib.hid (gb_be WG.out bX)
                have KA := Lib.hid (KA.out.below bX)
                have KB := Lib.hid (KB.out.below bX)
                have KM := Lib.hid (KM.out.below bX)
                have KJ := Lib.hid (KJ.out.below bX)
                have KS := Lib.hid (KS.out.below bX)
                clear bX
                go_wp2_with fail
                refine (agrees_b aS aA _ _ M cA _ _ true _ (H0.out.below GM.out.below) KS.out.1 KA.out.1 HX.out).mono ?_
                rintro e w104 ⟨rfl, bX⟩
                have GM := Lib.hid (GM.out.by_below bX)
                have WG := Lib.hid (gb_be WG.out bX)
                have KA := Lib.hid (KA.out.below bX)
                have KB := Lib.hid (KB.out.below bX)
                have KM := Lib.hid (KM.out.below bX)
                have KJ := Lib.hid (KJ.out.below bX)
                have KS := Lib.hid (KS.out.below bX)
                clear bX
                have HPJ := Lib.hid (JN.out (by simp))
                go_wp2_with fail
                refine (agrees_b aS aJ _ _ lJ cJ _ _ true _ (H0.out.below GM.out.below) KS.out.1 KJ.out.1 HPJ.out).mono ?_
                rintro e w105 ⟨rfl, bX⟩
                have GM := Lib.hid (GM.out.by_below bX)
                have WG := Lib.hid (gb_be WG.out bX)
                have KA := Lib.hid (KA.out.below bX)
                have KB := Lib.hid (KB.out.below bX)
                have KM := Lib.hid (KM.out.below bX)
                have KJ := Lib.hid (KJ.out.below bX)
                have KS := Lib.hid (KS.out.below bX)
                clear bX
                go_wp2
                go_roundw
                case rel => exact ⟨k + 1, by omega, by go_num, WG, GM⟩
                case measure => simp [intOf]; omega
              · skip
                have HPM : Hid (agrB T (meetL A S) = true) := by show _ = _; have := BOTH.out; simpa using this.symm
                go_wp2_with fail
                refine (agrees_b aS aA _ _ M cA _ _ true _ (H0.out.below GM.out.below) KS.out.1 KA.out.1 HX.out).mono ?_
                rintro e w101 ⟨rfl, bX⟩
                have GM := Lib.hid (GM.out.by_below bX)
                have WG := Lib.hid (gb_be WG.out bX)
                have KA := Lib.hid (KA.out.below bX)
                have KB := Lib.hid (KB.out.below bX)
                have KM := Lib.hid (KM.out.below bX)
                have KJ := Lib.hid (KJ.out.below bX)
                have KS := Lib.hid (KS.out.below bX)
                clear bX
                go_wp2_with fail
                refine (agrees_b aS aB _ _ M cB _ _ true _ (H0.out.below GM.out.below) KS.out.1 KB.out.1 HY.out).mono ?_
                rintro e w102 ⟨rfl, bX⟩
                have GM := Lib.hid (GM.out.by_below bX)
                have WG := Lib.hid (gb_be WG.out bX)
                have KA := Lib.hid (KA.out.below bX)
                have KB := Lib.hid (KB.out.below bX)
                have KM := Lib.hid (KM.out.below bX)
                have KJ := Lib.hid (KJ.out.below bX)
                have KS := Lib.hid (KS.out.below bX)
                clear bX
                go_wp2_with fail
                refine (agrees_b aS aM _ _ lM cM _ _ true _ (H0.out.below GM.out.below) KS.out.1 KM.out.1 HPM.out).mono ?_
                rintro e w103 ⟨rfl, bX⟩
                have GM := Lib.hid (GM.out.by_below bX)
                have WG := Lib.hid (gb_be WG.out bX)
                have KA := Lib.hid (KA.out.below bX)
                have KB := Lib.hid (KB.out.below bX)
                have KM := Lib.hid (KM.out.below bX)
                have KJ := Lib.hid (KJ.out.below bX)
                have KS := Lib.hid (KS.out.below bX)
                clear bX
                go_wp2_with fail
                refine (agrees_b aS aA _ _ M cA _ _ true _ (H0.out.below GM.out.below) KS.out.1 KA.out.1 HX.out).mono ?_
                rintro e w104 ⟨rfl, bX⟩
                have GM := Lib.hid (GM.out.by_below bX)
                have WG := Lib.hid (gb_be WG.out bX)
                have KA := Lib.hid (KA.out.below bX)
                have KB := Lib.hid (KB.out.below bX)
                have KM := Lib.hid (KM.out.below bX)
                have KJ := Lib.hid (KJ.out.below bX)
                have KS := Lib.hid (KS.out.below bX)
                clear bX
                have HPJ := Lib.hid (JN.out (by simp))
                go_wp2_with fail
                refine (agrees_b aS aJ _ _ lJ cJ _ _ true _ (H0.out.below GM.out.below) KS.out.1 KJ.out.1 HPJ.out).mono ?_
                rintro e w105 ⟨rfl, bX⟩
                have GM := Lib.hid (GM.out.by_below bX)
                have WG := Lib.hid (gb_be WG.out bX)
                have KA := Lib.hid (KA.out.below bX)
                have KB := Lib.hid (KB.out.below bX)
                have KM := Lib.hid (KM.out.below bX)
                have KJ := Lib.hid (KJ.out.below bX)
                have KS := Lib.hid (KS.out.below bX)
                clear bX
                go_wp2
                go_roundw
                case rel => exact ⟨k + 1, by omega, by go_num, WG, GM⟩
                case measure => simp [intOf]; omega
          · obtain rfl : k = 6 := by omega
            have hcls := (H0.out.below gm.out.below)
            go_wp2_with fail
            refine (awake_is _ hcls).mono ?_; rintro e w4 ⟨rfl, b4⟩
            have BZ := Lib.hid (gm.out.below.trans (b4.mono gm.out.below.size))
            clear b4
            go_wp2
            go_ret
            exact ⟨rfl, BZ.out⟩
  · have t1 : decide ((len : Int) ≤ 400) = false := decide_eq_false (by omega)
    go_enter Tryd.func5, Tryd.ntmps5
    go_wp2_with fail
    refine (few_any _ _ _ _ hl).mono ?_; rintro e w' ⟨rfl, rfl⟩
    go_wp2_with fail
    refine (awake_is _ H0.out).mono ?_; rintro e w4 ⟨rfl, b4⟩
    have BZ := Lib.hid b4
    clear b4
    go_wp2
    go_ret
    exact ⟨rfl, BZ.out⟩
end Go.Proofs.YtpobgdolhdlmeaaDoor.msk
