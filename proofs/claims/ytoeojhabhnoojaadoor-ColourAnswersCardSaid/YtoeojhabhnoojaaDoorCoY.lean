/- For every list of numbers, every list of positions, every network and two numbers that are handed in, ColourAnswers returns true: Parts, Colours, Shades, Faults and Joined answer as the reference does, with the same errors. Conditions: the tables 'classes' and 'flags' hold what their texts lay (the card ties that). -/
import Derived.Test.YtoeojhabhnoojaaDoorCoL
import Derived.Test.YtoeojhabhnoojaaDoorCoH
import Derived.Test.YtoeojhabhnoojaaDoorNtNa
namespace Go.Proofs.YtoeojhabhnoojaaDoor.col
open Go.RowKit Go.Maps lex aggs kit net deck msk

set_option maxRecDepth 100000 in
set_option maxHeartbeats 32000000 in
theorem answers_walk (la : Option Addr) (len cap : Nat) (zs : List Int) (aa : Option Addr) (al ac : Nat) (az : List Int) (ra rb : Option Addr) (RN rc RM rd : Nat) (rns : List Nd) (rds : List Dv) (u v : Int) (w : World)
    (hr : IsRow .i64 w la len cap zs) (ha : IsRow .i64 w aa al ac az) (hraw : NetIn w ra rb RN rc RM rd rns rds) (u0 : -9223372036854775808 ≤ u) (u1 : u ≤ 9223372036854775807) (v0 : -9223372036854775808 ≤ v) (v1 : v ≤ 9223372036854775807) (h : STabs w) :
    Calls Tryd.prog 3 #[.slice la len cap, .slice aa al ac, .agg #[.slice ra RN rc, .slice rb RM rd], .int .i64 u, .int .i64 v] w fun e w' => e = .returned (.bool true) ∧ Below w.heap.size w w' := by
  have hl : len ≤ 9223372036854775807 := by
    rcases hr with ⟨_, h, _⟩ | ⟨_, _, h1, h2, _⟩
    · omega
    · unfold maxLen at h2; omega
  have H := Lib.hid h
  have HRw := Lib.hid hr
  have RAW := Lib.hid hraw
  have LA := Lib.hid (row_lin ha).1
  have am1 := LA.out.cap
  have am2 := LA.out.max
  unfold maxLen at am2
  have UV := Lib.hid (And.intro (And.intro u0 u1) (And.intro v0 v1))
  have bx := below_box w (.cells #[.slice ra RN rc, .slice rb RM rd] 26)
  have BX := Lib.hid bx
  have NTX := Lib.hid (NtAt.new w (.slice ra RN rc) (.slice rb RM rd) 26)
  have LI := Lib.hid (light2_is ra rb RN rc RM rd rns rds _ (hraw.below bx))
  have n0 := NTX.out.1
  have n1 := NTX.out.2.1
  clear h hr ha hraw bx u0 u1 v0 v1
  by_cases h4 : 400 < len
  · have t1 : decide ((len : Int) ≤ 400) = false := decide_eq_false (by omega)
    go_enter Tryd.func3, Tryd.ntmps3
    go_wp2_with fail
    refine (few_any _ _ _ _ hl).mono ?_; rintro e w' ⟨rfl, rfl⟩
    go_wp2_with fail
    refine (awake_is _ (H.out.below BX.out)).mono ?_; rintro e w4 ⟨rfl, b4⟩
    have BZ := Lib.hid (BX.out.trans (b4.mono (by simp)))
    clear b4 n0 n1
    go_wp2
    go_ret
    exact ⟨rfl, BZ.out⟩
  have t1 : decide ((len : Int) ≤ 400) = true := decide_eq_true (by omega)
  by_cases h5 : 100 < al
  · have t2 : decide ((100 : Int) < (al : Int)) = true := decide_eq_true (by omega)
    go_enter Tryd.func3, Tryd.ntmps3
    go_wp2_with fail
    refine (few_any _ _ _ _ hl).mono ?_; rintro e w' ⟨rfl, rfl⟩
    go_wp2_with fail
    refine (awake_is _ (H.out.below BX.out)).mono ?_; rintro e w4 ⟨rfl, b4⟩
    have BZ := Lib.hid (BX.out.trans (b4.mono (by simp)))
    clear b4 n0 n1
    go_wp2
    go_ret
    exact ⟨rfl, BZ.out⟩
  have t2 : decide ((100 : Int) < (al : Int)) = false := decide_eq_false (by omega)
  go_enter Tryd.func3, Tryd.ntmps3
  go_wp2_with fail
  refine (few_any _ _ _ _ hl).mono ?_; rintro e w' ⟨rfl, rfl⟩
  go_wp2_with fail
  refine LI.out.mono ?_; rintro e W0 ⟨⟨r, rfl, hrl⟩, b0'⟩
  have B0 := Lib.hid (BX.out.trans (b0'.mono BX.out.size))
  have NT0 := Lib.hid (NTX.out.below b0' NTX.out.2.2)
  clear b0' LI NTX n0 n1
  cases r
  · go_wp2_with fail
    refine (awake_is _ (H.out.below B0.out)).mono ?_; rintro e w4 ⟨rfl, b4⟩
    have BZ := Lib.hid (B0.out.trans (b4.mono B0.out.size))
    clear b4
    go_wp2
    go_ret
    exact ⟨rfl, BZ.out⟩
  obtain ⟨hRN, hRM⟩ := hrl rfl
  have H0 := Lib.hid (H.out.below B0.out)
  have HR := Lib.hid (HRw.out.below B0.out)
  have RAW0 := Lib.hid (RAW.out.below B0.out)
  have LA0 := Lib.hid (LA.out.below B0.out)
  clear H HRw RAW LA hrl
  obtain ⟨x0, hx0⟩ : ∃ x, w.heap.size = x := ⟨_, rfl⟩
  rw [hx0] at NT0
  have hxl := NT0.out.2.2
  clear h4 t1 hl
  go_wp2_with fail
  clear hx0
  refine (newg_any _ _ _ _).mono ?_; rintro e w1 ⟨rfl, g1⟩
  have hbw := g1.lt
  obtain ⟨bd, hbd⟩ : ∃ b, W0.heap.size = b := ⟨_, rfl⟩
  have HB := Lib.hid hbd
  rw [hbd] at hbw g1 hxl ⊢
  clear hbd
  go_wp2_with fail
  refine (network_is (nodes := 7) (devices := 12) g1 HR.out (by decide) (by decide) (by decide) (by decide)).mono ?_
  rintro e W2 ⟨vn, vd, ns, ds, rfl, g2, rn, rdd, gn, gd, q1, q2, d1, d2⟩
  obtain ⟨an, cn, ad, cd, rfl, rfl, ni, z1, z2⟩ := rows_net rn rdd (by omega) gn gd hbw
  obtain ⟨N, hN⟩ : ∃ N, ns.length = N := ⟨_, rfl⟩
  obtain ⟨M, hM⟩ : ∃ M, ds.length = M := ⟨_, rfl⟩
  rw [hN] at ni q2 ⊢
  rw [hM] at d1 d2 ni ⊢
  have bx2 := below_box W2 (.cells #[.slice an N cn, .slice ad M cd] 26)
  have NT := Lib.hid (NtAt.new W2 (.slice an N cn) (.slice ad M cd) 26)
  have G3 := Lib.hid (g2.alloc (.cells #[.slice an N cn, .slice ad M cd] 26))
  have NF3 : Hid (NF (W2.alloc (.cells #[.slice an N cn, .slice ad M cd] 26)) bd an ad N cn M cd ns ds) := ⟨ni.below bx2, z1, z2⟩
  have hb2 := g2.lt
  obtain ⟨g, hg⟩ : ∃ g, W2.heap.size = g := ⟨_, rfl⟩
  rw [hg] at NT hb2
  obtain ⟨W3, hW3⟩ : ∃ W3, W2.alloc (.cells #[.slice an N cn, .slice ad M cd] 26) = W3 := ⟨_, rfl⟩
  have hs3 : bd < W3.heap.size := by rw [← hW3]; simp; omega
  rw [hW3] at NT G3 NF3
  have hgb : g ≠ bd := by omega
  have hxb : x0 ≠ bd := by omega
  have NFR := Lib.hid (nf_raw RAW0.out G3.out.below (Nat.le_of_eq HB.out))
  have KAA := Lib.hid (kept_row LA0.out G3.out.below (Nat.le_of_eq HB.out))
  have X0 := Lib.hid ((G3.out.below.cell (p := ⟨x0, 0, none⟩) (by rw [HB.out]; exact hxl)).trans NT0.out.1)
  have X1 := Lib.hid ((G3.out.below.cell (p := ⟨x0, 1, none⟩) (by rw [HB.out]; exact hxl)).trans NT0.out.2.1)
  have k1 := NT.out.1
  have k2 := NT.out.2.1
  have gm0 := G3.out
  have gr0 := gb_refl W3 (some bd)
  have h64 : M ≤ 64 := by omega
  clear rn rdd gn gd hN hM ni z1 z2 g1 g2 hbw bx2 hb2 RAW0 LA0 NT0 hxl
  go_wp2_with fail
  (try rw [hW3])
  clear hW3 hg
  refine (masks_is gm0 HR.out an ad N cn M cd ns ds (NF3.out.keep2 gr0) (by omega) (by omega) 6 (by decide)).mono ?_
  rintro e w4 ⟨vS, S, rfl, own, hS, hSm, hSu, gm4, gb4⟩
  obtain ⟨aM, cM, rfl, kM⟩ := OwnI.kept own hs3
  rw [hS] at kM ⊢
  have KM := Lib.hid kM
  have GM := Lib.hid gm4
  have NFN := Lib.hid (NF3.out.keep2 gb4)
  have NFR := Lib.hid (NFR.out.keep2 gb4)
  have KAA := Lib.hid (KAA.out.far gb4)
  have c0 := gb_cell k1 gb4 hgb
  have c1 := gb_cell k2 gb4 hgb
  have y0 := gb_cell X0.out gb4 hxb
  have y1 := gb_cell X1.out gb4 hxb
  clear kM own hS hSm hSu gm4 k1 k2 gm0 gr0 NT hs3 G3 X0 X1 NF3 gb4 d1 d2 q1
  have b5 := below_box w4 (.cells #[.slice an N cn, .slice ad M cd, .slice ra RN rc, .slice rb RM rd] 26)
  have TWOB := Lib.hid (VBlk.new w4 [.slice an N cn, .slice ad M cd, .slice ra RN rc, .slice rb RM rd] #[.slice an N cn, .slice ad M cd, .slice ra RN rc, .slice rb RM rd] rfl 26)
  have htw : w4.heap.size ≠ bd := Nat.ne_of_gt GM.out.lt
  have GM := Lib.hid (GM.out.by_below b5)
  have NFN := Lib.hid (NFN.out.keep2 (gb_bl b5 (some bd)))
  have NFR := Lib.hid (NFR.out.keep2 (gb_bl b5 (some bd)))
  have KM := Lib.hid (KM.out.below b5)
  have KAA := Lib.hid (KAA.out.below b5)
  have C0 := Lib.hid (gb_cell c0 (gb_bl b5 (some bd)) hgb)
  have C1 := Lib.hid (gb_cell c1 (gb_bl b5 (some bd)) hgb)
  obtain ⟨g4, hg4⟩ : ∃ x, w4.heap.size = x := ⟨_, rfl⟩
  obtain ⟨W5, hW5⟩ : ∃ W5, w4.alloc (.cells #[.slice an N cn, .slice ad M cd, .slice ra RN rc, .slice rb RM rd] 26) = W5 := ⟨_, rfl⟩
  rw [hg4] at TWOB htw
  rw [hW5] at TWOB GM NFN NFR KM KAA C0 C1
  have TWO : Hid (∀ j, j < 2 → ∃ (a b : Option Addr) (N' c M' d : Nat) (ns' : List Nd) (ds' : List Dv), (∀ W', W5.grownBy W' (some bd) → W'.cell? ⟨g4, j * 2, none⟩ = some (.slice a N' c) ∧ W'.cell? ⟨g4, j * 2 + 1, none⟩ = some (.slice b M' d)) ∧ NF W5 bd a b N' c M' d ns' ds' ∧ N' ≤ 100 ∧ M' ≤ 200) := fun j hj => by
    rcases (show j = 0 ∨ j = 1 by omega) with rfl | rfl
    · exact ⟨_, _, _, _, _, _, _, _, fun W' hg => ⟨(TWOB.out.far hg htw).get rfl, (TWOB.out.far hg htw).get rfl⟩, NFN.out, by omega, by omega⟩
    · exact ⟨_, _, _, _, _, _, _, _, fun W' hg => ⟨(TWOB.out.far hg htw).get rfl, (TWOB.out.far hg htw).get rfl⟩, NFR.out, hRN, hRM⟩
  clear b5 TWOB NFR hRN hRM
  go_wp2_with fail
  (try rw [hW5])
  (try rw [hg4])
  clear hW5 hg4 c0 c1 y0 y1
  go_loopw [65] (fun i wr => ∃ j : Nat, j ≤ 2 ∧ i = .int .i64 j ∧ Hid (W5.grownBy wr (some bd)) ∧ Hid (Game W0 wr bd la len cap)) (fun i _ => 2 - (intOf i).toNat)
  case atStart => exact ⟨0, Nat.zero_le _, rfl, gb_refl _ _, GM.out⟩
  case round =>
    clear GM
    obtain ⟨j, hj, rfl, gb, gm⟩ := hrel
    by_cases hj2 : j < 2
    · obtain ⟨xa, xb, XN, xc, XM, xd, xns, xds, hcell, nfx, hXN, hXM⟩ := TWO.out j hj2
      obtain ⟨t0, t1⟩ := hcell wr gb.out
      have hji : (j : Int) < 2 := by omega
      have bx6 := below_box wr (.cells #[.slice xa XN xc, .slice xb XM xd] 26)
      have NTX := Lib.hid (NtAt.new wr (.slice xa XN xc) (.slice xb XM xd) 26)
      have hgx : wr.heap.size ≠ bd := Nat.ne_of_gt gm.out.lt
      have NFX := Lib.hid ((nfx.keep2 gb.out).keep2 (gb_bl bx6 (some bd)))
      have NFN6 := Lib.hid ((NFN.out.keep2 gb.out).keep2 (gb_bl bx6 (some bd)))
      have KM6 := Lib.hid ((KM.out.far gb.out).below bx6)
      have KA6 := Lib.hid ((KAA.out.far gb.out).below bx6)
      have GM := Lib.hid (gm.out.by_below bx6)
      have G56 := Lib.hid (gb_be gb.out bx6)
      have c0 := gb_cell (gb_cell C0.out gb.out hgb) (gb_bl bx6 (some bd)) hgb
      have c1 := gb_cell (gb_cell C1.out gb.out hgb) (gb_bl bx6 (some bd)) hgb
      obtain ⟨gx, hgx'⟩ : ∃ x, wr.heap.size = x := ⟨_, rfl⟩
      obtain ⟨W6, hW6⟩ : ∃ W6, wr.alloc (.cells #[.slice xa XN xc, .slice xb XM xd] 26) = W6 := ⟨_, rfl⟩
      rw [hgx'] at NTX hgx
      rw [hW6] at NTX NFX NFN6 KM6 KA6 GM G56 c0 c1
      have e0 := NTX.out.1
      have e1 := NTX.out.2.1
      have gm0 := GM.out
      have gr0 := gb_refl W6 (some bd)
      clear bx6 nfx hcell gb gm
      go_wp2_with fail
      clear t0 t1
      go_region_held3 (fun w' => w'.cell? ⟨g, 0, none⟩ = some (.slice an N cn) ∧ w'.cell? ⟨g, 1, none⟩ = some (.slice ad M cd) ∧ w'.cell? ⟨gx, 0, none⟩ = some (.slice xa XN xc) ∧ w'.cell? ⟨gx, 1, none⟩ = some (.slice xb XM xd) ∧ Game W0 w' bd la len cap ∧ W6.grownBy w' (some bd))
        (first | exact four_drew ⟨c0, c1, e0, e1, gm0, gr0⟩ | exact ⟨c0, c1, e0, e1, gm0, gr0⟩ | exact four_drew (by assumption) | exact four_keep (by assumption) hgb hgx (by assumption) (by assumption) | exact four_drew (four_keep (by assumption) hgb hgx (by assumption) (by assumption)) | exact four_alloc (by assumption) hgb hgx _ | go_keep)
        (first
          | (go_at_call 14; refine (within_is (four_game (by assumption)).1 HR.out aM M cM S (KM6.out.far (four_game (by assumption)).2) h64).mono ?_; rintro e wA ⟨vA, TA, rfl, ownA, hTA, gmA, gbA⟩; obtain ⟨aA, cA, rfl, kA⟩ := OwnI.kept ownA (four_game (by assumption)).1.lt; rw [hTA] at kA ⊢)
          | (go_at_call 15; first
            | ((with_reducible refine (state_big (four_game (by assumption)).1 HR.out an ad N cn M cd ns ds (NFN6.out.keep2 (four_game (by assumption)).2) (by omega)).mono ?_); rintro e wB ⟨vB, TB, rfl, ownB, hTB, hBa, gmB, gbB⟩; obtain ⟨aB, cB, rfl, kB⟩ := OwnI.kept ownB (four_game (by assumption)).1.lt; rw [hTB] at kB ⊢)
            | ((with_reducible refine (state_big (four_game (by assumption)).1 HR.out xa xb XN xc XM xd xns xds (NFX.out.keep2 (four_game (by assumption)).2) (by omega)).mono ?_); rintro e wC ⟨vC, TC, rfl, ownC, hTC, hCa, gmC, gbC⟩; obtain ⟨aC, cC, rfl, kC⟩ := OwnI.kept ownC (four_game (by assumption)).1.lt; rw [hTC] at kC ⊢)))
      rename_i hH
      have GM7 := Lib.hid hH.2.2.2.2.1
      have G67 := Lib.hid hH.2.2.2.2.2
      have x0' := Lib.hid hH.2.2.1
      have x1' := Lib.hid hH.2.2.2.1
      have bx7 := below_box wC (.cells #[.slice aa al ac, .slice aM M cM, .slice aA M cA, .slice aB M cB, .slice aC XM cC] 22)
      have KX0 := Lib.hid (KA6.out.far G67.out)
      have KX1 := Lib.hid (KM6.out.far G67.out)
      have KX2 := Lib.hid (((kA.far gbB).far gbC).below bx7)
      have KX3 := Lib.hid ((kB.far gbC).below bx7)
      have KX4 := Lib.hid (kC.below bx7)
      have NF7 := Lib.hid (NFX.out.keep2 G67.out)
      have SIX := Lib.hid (VBlk.new wC [.slice aa al ac, .slice aM M cM, .slice aA M cA, .slice aB M cB, .slice aC XM cC] #[.slice aa al ac, .slice aM M cM, .slice aA M cA, .slice aB M cB, .slice aC XM cC] rfl 22)
      have hg7 : wC.heap.size ≠ bd := Nat.ne_of_gt gmC.lt
      clear hH hTA gmA gbA kA ownA hTB hBa gmB gbB kB ownB hTC hCa gmC gbC kC ownC bx7 c0 c1 e0 e1 gm0 gr0 hgx' hW6 KA6 KM6 NFN6 NFX NTX
      go_wp2_with fail
      obtain ⟨g7, hg7'⟩ : ∃ x, wC.heap.size = x := ⟨_, rfl⟩
      obtain ⟨W7, hW7⟩ : ∃ W7, wC.alloc (.cells #[.slice aa al ac, .slice aM M cM, .slice aA M cA, .slice aB M cB, .slice aC XM cC] 22) = W7 := ⟨_, rfl⟩
      (try rw [hW7])
      (try rw [hg7'])
      rw [hg7'] at SIX hg7
      rw [hW7] at GM7 G67 x0' x1' KX0 KX1 KX2 KX3 KX4 NF7 SIX
      clear hg7' hW7
      have FIV : Hid (∀ k, k < 5 → ∃ (l : Option Addr) (L c : Nat) (ys : List Int), (∀ W', W7.grownBy W' (some bd) → W'.cell? ⟨g7, k, none⟩ = some (.slice l L c)) ∧ Kept W7 bd l L c ys) := fun k hk => by
        rcases (show k = 0 ∨ k = 1 ∨ k = 2 ∨ k = 3 ∨ k = 4 by omega) with rfl | rfl | rfl | rfl | rfl
        · exact ⟨_, _, _, _, fun W' hg => (SIX.out.far hg hg7).get rfl, KX0.out⟩
        · exact ⟨_, _, _, _, fun W' hg => (SIX.out.far hg hg7).get rfl, KX1.out⟩
        · exact ⟨_, _, _, _, fun W' hg => (SIX.out.far hg hg7).get rfl, KX2.out⟩
        · exact ⟨_, _, _, _, fun W' hg => (SIX.out.far hg hg7).get rfl, KX3.out⟩
        · exact ⟨_, _, _, _, fun W' hg => (SIX.out.far hg hg7).get rfl, KX4.out⟩
      clear KX0 KX1 KX2 KX3 KX4 SIX hg7
      go_loopw [82] (fun i wr2 => ∃ k : Nat, k ≤ 5 ∧ i = .int .i64 k ∧ Hid (W7.grownBy wr2 (some bd)) ∧ Hid (Game W0 wr2 bd la len cap)) (fun i _ => 5 - (intOf i).toNat)
      case atStart => exact ⟨0, Nat.zero_le _, rfl, gb_refl _ _, GM7.out⟩
      case round =>
        clear GM7
        obtain ⟨k, hk, rfl, gb, gm⟩ := hrel
        by_cases hk5 : k < 5
        · obtain ⟨aL, L, cL, ys, hcell, kL⟩ := FIV.out k hk5
          have t0 := hcell wr gb.out
          have hki : (k : Int) < 5 := by omega
          have e0 := gb_cell x0'.out gb.out hgx
          have e1 := gb_cell x1'.out gb.out hgx
          obtain ⟨E, hE⟩ : ∃ E, chkM 2 xns xds ys = E := ⟨_, rfl⟩
          obtain ⟨E1, hE1⟩ : ∃ E, chkM 1 xns xds ys = E := ⟨_, rfl⟩
          obtain ⟨PL, hPL⟩ : ∃ x, (if E = 0 then ptL xds ys XN else []) = x := ⟨_, rfl⟩
          obtain ⟨CL, hCL⟩ : ∃ x, (if E = 0 then coL xds ys XN else []) = x := ⟨_, rfl⟩
          obtain ⟨FL, hFL⟩ : ∃ x, (if E = 0 then faL xds ys XN else []) = x := ⟨_, rfl⟩
          obtain ⟨ZL, hZL⟩ : ∃ x, (if E1 = 0 then shL xds ys XN else []) = x := ⟨_, rfl⟩
          have HT := Lib.hid (fun x (b : Below wr.heap.size wr x) => H0.out.below (gm.out.below.trans (b.mono gm.out.below.size)))
          have NI := Lib.hid (fun x (b : Below wr.heap.size wr x) => (NF7.out.keep gb.out).below b)
          have LI := Lib.hid (fun x (b : Below wr.heap.size wr x) => (kL.far gb.out).1.below b)
          have X0 := Lib.hid (fun x (b : Below wr.heap.size wr x) => (b.cell (p := ⟨gx, 0, none⟩) (World.block_lt_of_cell? wr _ e0)).trans e0)
          have X1 := Lib.hid (fun x (b : Below wr.heap.size wr x) => (b.cell (p := ⟨gx, 1, none⟩) (World.block_lt_of_cell? wr _ e1)).trans e1)
          have F1 := Lib.hid (fun x b => Parts_is xa xb aL XN xc XM xd L cL xns xds ys E x (HT.out _ b) (NI.out _ b) (LI.out _ b) hE)
          have F2 := Lib.hid (fun x b => rParts_is xa xb aL XN xc XM xd L cL xns xds ys E x (NI.out _ b) (LI.out _ b) hE)
          have F3 := Lib.hid (fun x b => Colours_is xa xb aL XN xc XM xd L cL xns xds ys E x (HT.out _ b) (NI.out _ b) (LI.out _ b) hE)
          have F4 := Lib.hid (fun x b => rColours_is xa xb aL XN xc XM xd L cL xns xds ys E x (NI.out _ b) (LI.out _ b) hE)
          have F5 := Lib.hid (fun x b => Shades_is xa xb aL XN xc XM xd L cL xns xds ys E1 x (HT.out _ b) (NI.out _ b) (LI.out _ b) hE1)
          have F6 := Lib.hid (fun x b => rShades_is xa xb aL XN xc XM xd L cL xns xds ys E1 x (NI.out _ b) (LI.out _ b) hE1)
          have F7 := Lib.hid (fun x b => Faults_is xa xb aL XN xc XM xd L cL xns xds ys E x (HT.out _ b) (NI.out _ b) (LI.out _ b) hE)
          have F8 := Lib.hid (fun x b => rFaults_is xa xb aL XN xc XM xd L cL xns xds ys E x (NI.out _ b) (LI.out _ b) hE)
          have HPL := Lib.hid hPL
          have HCL := Lib.hid hCL
          have HFL := Lib.hid hFL
          have HZL := Lib.hid hZL
          have TE := bne_self_eq_false E
          have TE1 := bne_self_eq_false E1
          have KL := Lib.hid kL
          clear hPL hCL hFL hZL hE hE1 hcell kL NI LI HT
          go_wp2_with fail
          refine (F1.out _ (Below.refl _ _)).mono ?_
          rintro e y1 ⟨v1, rfl, own, b1⟩
          clear t0
          rw [HPL.out] at own
          obtain ⟨aa1, ca1, rfl, lA, -⟩ := own.lin
          have LA := Lib.hid (fun x (b : Below y1.heap.size y1 x) => lA.below b)
          have Ey1 := Lib.hid b1
          have e0 := X0.out _ Ey1.out
          have e1 := X1.out _ Ey1.out
          clear own lA b1
          go_wp2_with fail
          refine (F2.out _ Ey1.out).mono ?_
          rintro e y2 ⟨v1, rfl, own, b1⟩
          rw [HPL.out] at own
          obtain ⟨aa2, ca2, rfl, lA, -⟩ := own.lin
          have LA := Lib.hid (fun x (b : Below y2.heap.size y2 x) => LA.out _ (b1.trans (b.mono b1.size)))
          have LB := Lib.hid (fun x (b : Below y2.heap.size y2 x) => lA.below b)
          have Ey2 := Lib.hid (Ey1.out.trans (b1.mono Ey1.out.size))
          have e0 := X0.out _ Ey2.out
          have e1 := X1.out _ Ey2.out
          clear own lA b1
          go_wp2_with fail
          refine (F3.out _ Ey2.out).mono ?_
          rintro e y3 ⟨v1, rfl, own, b1⟩
          rw [HCL.out] at own
          obtain ⟨aa3, ca3, rfl, lA, -⟩ := own.lin
          have LA := Lib.hid (fun x (b : Below y3.heap.size y3 x) => LA.out _ (b1.trans (b.mono b1.size)))
          have LB := Lib.hid (fun x (b : Below y3.heap.size y3 x) => LB.out _ (b1.trans (b.mono b1.size)))
          have LC := Lib.hid (fun x (b : Below y3.heap.size y3 x) => lA.below b)
          have Ey3 := Lib.hid (Ey2.out.trans (b1.mono Ey2.out.size))
          have e0 := X0.out _ Ey3.out
          have e1 := X1.out _ Ey3.out
          clear own lA b1
          go_wp2_with fail
          refine (F4.out _ Ey3.out).mono ?_
          rintro e y4 ⟨v1, rfl, own, b1⟩
          rw [HCL.out] at own
          obtain ⟨aa4, ca4, rfl, lA, -⟩ := own.lin
          have LA := Lib.hid (fun x (b : Below y4.heap.size y4 x) => LA.out _ (b1.trans (b.mono b1.size)))
          have LB := Lib.hid (fun x (b : Below y4.heap.size y4 x) => LB.out _ (b1.trans (b.mono b1.size)))
          have LC := Lib.hid (fun x (b : Below y4.heap.size y4 x) => LC.out _ (b1.trans (b.mono b1.size)))
          have LD := Lib.hid (fun x (b : Below y4.heap.size y4 x) => lA.below b)
          have Ey4 := Lib.hid (Ey3.out.trans (b1.mono Ey3.out.size))
          have e0 := X0.out _ Ey4.out
          have e1 := X1.out _ Ey4.out
          clear own lA b1
          go_wp2_with fail
          refine (F5.out _ Ey4.out).mono ?_
          rintro e y5 ⟨v1, rfl, own, b1⟩
          rw [HZL.out] at own
          obtain ⟨aa5, ca5, rfl, lA⟩ := OwnS.sin own
          have LA := Lib.hid (fun x (b : Below y5.heap.size y5 x) => LA.out _ (b1.trans (b.mono b1.size)))
          have LB := Lib.hid (fun x (b : Below y5.heap.size y5 x) => LB.out _ (b1.trans (b.mono b1.size)))
          have LC := Lib.hid (fun x (b : Below y5.heap.size y5 x) => LC.out _ (b1.trans (b.mono b1.size)))
          have LD := Lib.hid (fun x (b : Below y5.heap.size y5 x) => LD.out _ (b1.trans (b.mono b1.size)))
          have LE := Lib.hid (fun x (b : Below y5.heap.size y5 x) => lA.below b)
          have Ey5 := Lib.hid (Ey4.out.trans (b1.mono Ey4.out.size))
          have e0 := X0.out _ Ey5.out
          have e1 := X1.out _ Ey5.out
          clear own lA b1
          go_wp2_with fail
          refine (F6.out _ Ey5.out).mono ?_
          rintro e y6 ⟨v1, rfl, own, b1⟩
          rw [HZL.out] at own
          obtain ⟨aa6, ca6, rfl, lA⟩ := OwnS.sin own
          have LA := Lib.hid (fun x (b : Below y6.heap.size y6 x) => LA.out _ (b1.trans (b.mono b1.size)))
          have LB := Lib.hid (fun x (b : Below y6.heap.size y6 x) => LB.out _ (b1.trans (b.mono b1.size)))
          have LC := Lib.hid (fun x (b : Below y6.heap.size y6 x) => LC.out _ (b1.trans (b.mono b1.size)))
          have LD := Lib.hid (fun x (b : Below y6.heap.size y6 x) => LD.out _ (b1.trans (b.mono b1.size)))
          have LE := Lib.hid (fun x (b : Below y6.heap.size y6 x) => LE.out _ (b1.trans (b.mono b1.size)))
          have LF := Lib.hid (fun x (b : Below y6.heap.size y6 x) => lA.below b)
          have Ey6 := Lib.hid (Ey5.out.trans (b1.mono Ey5.out.size))
          have e0 := X0.out _ Ey6.out
          have e1 := X1.out _ Ey6.out
          clear own lA b1
          go_wp2_with fail
          refine (F7.out _ Ey6.out).mono ?_
          rintro e y7 ⟨v1, rfl, own, b1⟩
          rw [HFL.out] at own
          obtain ⟨aa7, ca7, rfl, lA, -⟩ := own.lin
          have LA := Lib.hid (fun x (b : Below y7.heap.size y7 x) => LA.out _ (b1.trans (b.mono b1.size)))
          have LB := Lib.hid (fun x (b : Below y7.heap.size y7 x) => LB.out _ (b1.trans (b.mono b1.size)))
          have LC := Lib.hid (fun x (b : Below y7.heap.size y7 x) => LC.out _ (b1.trans (b.mono b1.size)))
          have LD := Lib.hid (fun x (b : Below y7.heap.size y7 x) => LD.out _ (b1.trans (b.mono b1.size)))
          have LE := Lib.hid (fun x (b : Below y7.heap.size y7 x) => LE.out _ (b1.trans (b.mono b1.size)))
          have LF := Lib.hid (fun x (b : Below y7.heap.size y7 x) => LF.out _ (b1.trans (b.mono b1.size)))
          have LG := Lib.hid (fun x (b : Below y7.heap.size y7 x) => lA.below b)
          have Ey7 := Lib.hid (Ey6.out.trans (b1.mono Ey6.out.size))
          have e0 := X0.out _ Ey7.out
          have e1 := X1.out _ Ey7.out
          clear own lA b1
          go_wp2_with fail
          refine (F8.out _ Ey7.out).mono ?_
          rintro e y8 ⟨v1, rfl, own, b1⟩
          rw [HFL.out] at own
          obtain ⟨aa8, ca8, rfl, lA, -⟩ := own.lin
          have LA := Lib.hid (fun x (b : Below y8.heap.size y8 x) => LA.out _ (b1.trans (b.mono b1.size)))
          have LB := Lib.hid (fun x (b : Below y8.heap.size y8 x) => LB.out _ (b1.trans (b.mono b1.size)))
          have LC := Lib.hid (fun x (b : Below y8.heap.size y8 x) => LC.out _ (b1.trans (b.mono b1.size)))
          have LD := Lib.hid (fun x (b : Below y8.heap.size y8 x) => LD.out _ (b1.trans (b.mono b1.size)))
          have LE := Lib.hid (fun x (b : Below y8.heap.size y8 x) => LE.out _ (b1.trans (b.mono b1.size)))
          have LF := Lib.hid (fun x (b : Below y8.heap.size y8 x) => LF.out _ (b1.trans (b.mono b1.size)))
          have LG := Lib.hid (fun x (b : Below y8.heap.size y8 x) => LG.out _ (b1.trans (b.mono b1.size)))
          have LH := Lib.hid (fun x (b : Below y8.heap.size y8 x) => lA.below b)
          have Ey8 := Lib.hid (Ey7.out.trans (b1.mono Ey7.out.size))
          have e0 := X0.out _ Ey8.out
          have e1 := X1.out _ Ey8.out
          clear own lA b1
          go_wp2_with fail
          refine (ints_b aa1 aa2 PL.length ca1 PL.length ca2 PL PL true _ (LA.out _ (Below.refl _ _)) (LB.out _ (Below.refl _ _)) (decide_eq_true rfl)).mono ?_
          rintro e z1 ⟨rfl, b1⟩
          have Ez1 := Lib.hid b1
          clear b1
          go_wp2_with fail
          refine (ints_b aa3 aa4 CL.length ca3 CL.length ca4 CL CL true _ (LC.out _ Ez1.out) (LD.out _ Ez1.out) (decide_eq_true rfl)).mono ?_
          rintro e z2 ⟨rfl, b1⟩
          have Ez2 := Lib.hid (Ez1.out.trans (b1.mono Ez1.out.size))
          clear b1
          go_wp2_with fail
          refine (same_is aa5 aa6 ZL.length ca5 ZL.length ca6 ZL ZL true _ (LE.out _ Ez2.out) (LF.out _ Ez2.out) (decide_eq_true rfl)).mono ?_
          rintro e z3 ⟨rfl, n9, rfl⟩
          obtain ⟨z3, hz3⟩ : ∃ x, z2.drewN n9 = x := ⟨_, rfl⟩
          rw [hz3]
          have Ez3 := Lib.hid (show Below y8.heap.size y8 z3 from hz3 ▸ below_drewN Ez2.out n9)
          clear hz3
          go_wp2_with fail
          refine (ints_b aa7 aa8 FL.length ca7 FL.length ca8 FL FL true _ (LG.out _ Ez3.out) (LH.out _ Ez3.out) (decide_eq_true rfl)).mono ?_
          rintro e z4 ⟨rfl, b1⟩
          have Ez4 := Lib.hid (Ez3.out.trans (b1.mono Ez3.out.size))
          clear b1
          have E8 := Lib.hid (Ey8.out.trans (Ez4.out.mono Ey8.out.size))
          have GM8 := Lib.hid (gm.out.by_below E8.out)
          have gmn := GM8.out
          clear LA LB LC LD LE LF LG LH Ey1 Ey2 Ey3 Ey4 Ey5 Ey6 Ey7 Ey8 Ez1 Ez2 Ez3 Ez4 F1 F2 F3 F4 F5 F6 F7 F8 HPL HCL HZL HFL TE TE1 e0 e1
          go_wp2_with fail
          refine (gmn.next HR.out 7 (by omega)).mono ?_
          rintro e w5 ⟨r7, rfl, r70, r71, gm5, gb5⟩
          go_wp2_with fail
          refine (gm5.next HR.out 8 (by omega)).mono ?_
          rintro e w6 ⟨r8, rfl, r80, r81, gm6, gb6⟩
          have bx9 := below_box w6 (.cells #[.int .i64 u, .int .i64 v, .int .i64 r7, .int .i64 r8] 46)
          have G9 := Lib.hid (gb_be (gb_tr (gb_tr (gb_be gb.out E8.out) gb5) gb6) bx9)
          have GM9 := Lib.hid (gm6.by_below bx9)
          have e0 := gb_cell (gb_cell (gb_cell (X0.out _ E8.out) gb5 hgx) gb6 hgx) (gb_bl bx9 (some bd)) hgx
          have e1 := gb_cell (gb_cell (gb_cell (X1.out _ E8.out) gb5 hgx) gb6 hgx) (gb_bl bx9 (some bd)) hgx
          have UVB := Lib.hid (VBlk.new w6 [.int .i64 u, .int .i64 v, .int .i64 r7, .int .i64 r8] #[.int .i64 u, .int .i64 v, .int .i64 r7, .int .i64 r8] rfl 46)
          have h69 := GM9.out.lt
          have h6n : w6.heap.size ≠ bd := Nat.ne_of_gt gm6.lt
          clear bx9 gm5 gb5 gm6 gb6 gmn E8 X0 X1 gm gb GM8 h69
          go_wp2_with fail
          obtain ⟨g9, hg9⟩ : ∃ x, w6.heap.size = x := ⟨_, rfl⟩
          obtain ⟨W9, hW9⟩ : ∃ x, w6.alloc (.cells #[.int .i64 u, .int .i64 v, .int .i64 r7, .int .i64 r8] 46) = x := ⟨_, rfl⟩
          (try rw [hW9])
          (try rw [hg9])
          rw [hg9] at UVB h6n
          rw [hW9] at G9 GM9 e0 e1 UVB
          clear hg9 hW9
          have PAR : Hid (∀ q, q < 2 → ∃ x y : Int, (-9223372036854775808 ≤ x ∧ x ≤ 9223372036854775807 ∧ -9223372036854775808 ≤ y ∧ y ≤ 9223372036854775807) ∧ ∀ W', Below W9.heap.size W9 W' → W'.cell? ⟨g9, q * 2, none⟩ = some (.int .i64 x) ∧ W'.cell? ⟨g9, q * 2 + 1, none⟩ = some (.int .i64 y)) := fun q hq => by
            rcases (show q = 0 ∨ q = 1 by omega) with rfl | rfl
            · exact ⟨u, v, ⟨UV.out.1.1, UV.out.1.2, UV.out.2.1, UV.out.2.2⟩, fun W' hb => ⟨(UVB.out.far (gb_bl hb (some bd)) h6n).get rfl, (UVB.out.far (gb_bl hb (some bd)) h6n).get rfl⟩⟩
            · exact ⟨r7, r8, ⟨by omega, by omega, by omega, by omega⟩, fun W' hb => ⟨(UVB.out.far (gb_bl hb (some bd)) h6n).get rfl, (UVB.out.far (gb_bl hb (some bd)) h6n).get rfl⟩⟩
          have H9 := Lib.hid (fun x (b : Below W9.heap.size W9 x) => H0.out.below (GM9.out.below.trans (b.mono GM9.out.below.size)))
          have N9 := Lib.hid (fun x (b : Below W9.heap.size W9 x) => (NF7.out.keep G9.out).below b)
          have L9 := Lib.hid (fun x (b : Below W9.heap.size W9 x) => (KL.out.far G9.out).1.below b)
          have X0 := Lib.hid (fun x (b : Below W9.heap.size W9 x) => (b.cell (p := ⟨gx, 0, none⟩) (World.block_lt_of_cell? W9 _ e0)).trans e0)
          have X1 := Lib.hid (fun x (b : Below W9.heap.size W9 x) => (b.cell (p := ⟨gx, 1, none⟩) (World.block_lt_of_cell? W9 _ e1)).trans e1)
          clear UVB h6n r70 r71 r80 r81 e0 e1 KL
          go_loopw [186] (fun i wr3 => ∃ q : Nat, q ≤ 2 ∧ i = .int .i64 q ∧ Hid (Below W9.heap.size W9 wr3)) (fun i _ => 2 - (intOf i).toNat)
          case atStart => exact ⟨0, Nat.zero_le _, rfl, Below.refl _ _⟩
          case round =>
            obtain ⟨q, hq, rfl, bel⟩ := hrel
            by_cases hq2 : q < 2
            · obtain ⟨x, y, xyb, hxy⟩ := PAR.out q hq2
              obtain ⟨t0, t1⟩ := hxy wr bel.out
              have XYB := Lib.hid xyb
              have hqi : (q : Int) < 2 := by omega
              have bx10 := below_box wr (.cells #[.int .i64 x, .int .i64 y] 46)
              have NTX := Lib.hid (NtAt.new wr (.int .i64 x) (.int .i64 y) 46)
              have EB := Lib.hid (bel.out.trans (bx10.mono bel.out.size))
              have e0 := X0.out _ EB.out
              have e1 := X1.out _ EB.out
              have k0 := NTX.out.1
              have k1 := NTX.out.2.1
              obtain ⟨jb, hjb⟩ : ∃ b, jnB XN xns xds ys x y = b := ⟨_, rfl⟩
              obtain ⟨je, hje⟩ : ∃ b, jnE XN xns xds ys x y = b := ⟨_, rfl⟩
              have J1 := Lib.hid (fun z (b : Below W9.heap.size W9 z) => Joined_is xa xb aL XN xc XM xd L cL xns xds ys x y jb je z (H9.out _ b) (N9.out _ b) (L9.out _ b) XYB.out.1 XYB.out.2.1 XYB.out.2.2.1 XYB.out.2.2.2 hjb hje)
              have J2 := Lib.hid (fun z (b : Below W9.heap.size W9 z) => rJoined_is xa xb aL XN xc XM xd L cL xns xds ys x y jb je z (N9.out _ b) (L9.out _ b) XYB.out.1 XYB.out.2.1 XYB.out.2.2.1 XYB.out.2.2.2 hjb hje)
              have T1 := bne_self_eq_false jb
              have T2 := bne_self_eq_false je
              clear hjb hje hxy xyb bel bx10
              go_wp2_with fail
              clear t0 t1
              refine (J1.out _ EB.out).mono ?_
              rintro e w7 ⟨rfl, b7⟩
              have EC := Lib.hid (EB.out.trans (b7.mono EB.out.size))
              have e0 := X0.out _ EC.out
              have e1 := X1.out _ EC.out
              obtain ⟨k0, k1, k2⟩ := NTX.out.below b7 NTX.out.2.2
              clear b7 k2
              go_wp2_with fail
              refine (J2.out _ EC.out).mono ?_
              rintro e w8 ⟨rfl, b8⟩
              have ED := Lib.hid (EC.out.trans (b8.mono EC.out.size))
              clear b8
              go_wp2
              go_roundw
              case rel => exact ⟨q + 1, by omega, by go_num, ED.out⟩
              case measure => simp [intOf]; omega
            · obtain rfl : q = 2 := by omega
              have GA := Lib.hid (gb_be G9.out bel.out)
              have GB := Lib.hid (GM9.out.by_below bel.out)
              clear bel
              go_wp2
              go_roundw
              case rel => exact ⟨k + 1, by omega, by go_num, GA.out, GB.out⟩
              case measure => simp [intOf]; omega
        · obtain rfl : k = 5 := by omega
          have GA := Lib.hid (gb_tr (gb_tr G56.out G67.out) gb.out)
          clear gb
          go_wp2
          go_roundw
          case rel => exact ⟨j + 1, by omega, by go_num, GA.out, gm.out⟩
          case measure => simp [intOf]; omega
    · obtain rfl : j = 2 := by omega
      have BG := Lib.hid gm.out.below
      clear gb gm
      go_wp2_with fail
      refine (awake_is _ (H0.out.below BG.out)).mono ?_; rintro e w4 ⟨rfl, b4⟩
      have BE := Lib.hid (BG.out.trans (b4.mono BG.out.size))
      have BZ := Lib.hid (B0.out.trans (BE.out.mono B0.out.size))
      clear b4
      go_wp2
      go_ret
      exact ⟨rfl, BZ.out⟩
end Go.Proofs.YtoeojhabhnoojaaDoor.col
