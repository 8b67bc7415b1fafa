/- For every list of numbers NetworkLess returns true: a way stays one if more devices may be used, and gets no longer. Condition: the table 'classes' holds what the program's text lays (the card ties that). -/
import Derived.Test.YtleggojgcaefdaaDoorNetN
import Derived.RegionTactic
import Derived.BigRegion
import Derived.Deep.RegionHeld3
namespace Go.Proofs.YtleggojgcaefdaaDoor.net
open Go.RowKit lex aggs kit deck

theorem less_fact {ns : List Nd} {ds : List Dv} {us us2 : List Bool} {f t : Int} {xs xs2 : List Nat} {ok ok2 : Bool} {er er2 : Int} (hc : chk ns ds = 0) (h1 : WayIs ns ds us f t xs ok er) (h2 : WayIs ns ds us2 f t xs2 ok2 er2) (l1 : us.length = ds.length) (l2 : us2.length = ds.length)
    (hf : 0 ≤ f ∧ f < ns.length) (ht : 0 ≤ t ∧ t < ns.length) (sub : ∀ i, i < ds.length → us.getD i false = true → us2.getD i false = true) :
    er = 0 ∧ er2 = 0 ∧ (ok = true → ok2 = true ∧ xs2.length ≤ xs.length) ∧ (f = t → ok = true ∧ xs.length = 0) := by
  unfold WayIs at h1 h2
  rw [if_pos hc, if_pos l1, if_pos ⟨hf, ht⟩] at h1
  rw [if_pos hc, if_pos l2, if_pos ⟨hf, ht⟩] at h2
  obtain ⟨e1, D, hD, h1⟩ := h1
  obtain ⟨e2, D2, hD2, h2⟩ := h2
  have hfN : f.toNat < ns.length := by omega
  have sy2 := nb_sym (us := us2) (N := ns.length) (ds := ds) (fun i hi => chk_its hc i hi)
  have sb : ∀ i, i < ds.length → ∀ v, v < ns.length → ∀ u : Nat, nb ds us i v = u → nb ds us2 i v = u := by
    intro i hi v _ u hu
    unfold nb at hu ⊢
    by_cases hb : us.getD i false = true
    · rw [if_pos hb] at hu; rw [if_pos (sub i hi hb)]; exact hu
    · rw [if_neg hb] at hu; omega
  refine ⟨e1, e2, fun hok => ?_, fun he => ?_⟩
  · rcases h1 with ⟨_, h, _⟩ | ⟨n, hn, _, hx⟩
    · rw [h] at hok; cases hok
    · have hle := hD.le sy2 hD2 sb n f.toNat hfN hn
      rcases h2 with ⟨h, _, _⟩ | ⟨m, hm, ho, hx2⟩
      · omega
      · refine ⟨ho, ?_⟩
        rw [hx, hx2, wayL_length, wayL_length]; omega
  · have hz : D f.toNat = 0 := by rw [he]; exact hD.zero
    rcases h1 with ⟨h, _, _⟩ | ⟨n, hn, ho, hx⟩
    · omega
    · refine ⟨ho, ?_⟩
      rw [hx, wayL_length]; omega
set_option maxRecDepth 100000 in
set_option maxHeartbeats 8000000 in
theorem less_walk (a : Option Addr) (len cap : Nat) (zs : List Int) (w : World) (hr : IsRow .i64 w a len cap zs) (h : HasClasses w) :
    Calls Tryd.prog 5 #[.slice a len cap] w fun e w' => e = .returned (.bool true) ∧ Below w.heap.size w w' := by
  have hl : len ≤ 9223372036854775807 := by
    rcases hr with ⟨_, h, _⟩ | ⟨_, _, h1, h2, _⟩
    · omega
    · unfold maxLen at h2; omega
  have H := Lib.hid h
  have HR := Lib.hid hr
  clear h hr
  by_cases h4 : len ≤ 400
  · have t1 : decide ((len : Int) ≤ 400) = true := decide_eq_true (by omega)
    go_enter Tryd.func5, Tryd.ntmps5
    go_wp2_with fail
    refine (few_any _ _ _ _ hl).mono ?_; rintro e w' ⟨rfl, rfl⟩
    go_wp2_with fail
    refine (newg_any _ _ _ _).mono ?_; rintro e w1 ⟨rfl, g1⟩
    have hbw := g1.lt
    obtain ⟨bd, hbd⟩ : ∃ b, w.heap.size = b := ⟨_, rfl⟩
    have HB := Lib.hid hbd
    rw [hbd] at hbw g1 ⊢
    clear hbd
    go_wp2_with fail
    refine (network_is (nodes := 8) (devices := 14) g1 HR.out (by decide) (by decide) (by decide) (by decide)).mono ?_
    rintro e W2 ⟨vn, vd, ns, ds, rfl, g2, rn, rd, gn, gd, n1, n2, d1, d2⟩
    obtain ⟨an, cn, ad, cd, rfl, rfl, ni, z1, z2⟩ := rows_net rn rd (by omega) gn gd hbw
    have CH := Lib.hid (good_chk (by omega) (by omega) gn gd)
    obtain ⟨N, hN⟩ : ∃ N, ns.length = N := ⟨_, rfl⟩
    obtain ⟨M, hM⟩ : ∃ M, ds.length = M := ⟨_, rfl⟩
    have HN := Lib.hid hN
    have HM := Lib.hid hM
    rw [hN] at n1 n2 ni ⊢
    rw [hM] at d1 d2 ni ⊢
    have NI := Lib.hid ni
    have Z1 := Lib.hid z1
    have Z2 := Lib.hid z2
    have hb2 := g2.lt
    have NT := Lib.hid (NtAt.new W2 (.slice an N cn) (.slice ad M cd) 26)
    have G3 := Lib.hid (g2.alloc (.cells #[.slice an N cn, .slice ad M cd] 26))
    clear rn rd gn gd hN hM ni z1 z2 g1 g2 hbw w1
    have hmk := make_flags M (by omega)
    obtain ⟨g, hg⟩ : ∃ g, W2.heap.size = g := ⟨_, rfl⟩
    rw [hg] at NT hb2
    obtain ⟨W3, hW3⟩ : ∃ W3, W2.alloc (.cells #[.slice an N cn, .slice ad M cd] 26) = W3 := ⟨_, rfl⟩
    have NI3 := Lib.hid (NI.out.below (below_box W2 (.cells #[.slice an N cn, .slice ad M cd] 26)))
    have hs3 : W3.heap.size = g + 1 := by rw [← hW3, ← hg]; simp
    rw [hW3] at NT G3 NI3
    have k2 := NT.out.2.1
    have k2a : ∀ o, (W3.alloc o).cell? ⟨g, 1, none⟩ = some (.slice ad M cd) := fun o => (NT.out.alloc o).2.1
    have hgb : g ≠ bd := by omega
    clear NI
    go_wp2_with fail
    clear hW3 hg
    go_region
    · have KP : Hid (Keeps (g + 1) bd W3 ((W3.alloc (.cells (madeCells #[.bool false] M) 4)).alloc (.cells (madeCells #[.bool false] M) 4))) := ((Keeps.refl (g + 1) bd W3).alloc (by omega) _).alloc (by simp; omega) _
      have GA := Lib.hid ((G3.out.alloc (.cells (madeCells #[.bool false] M) 4)).alloc (.cells (madeCells #[.bool false] M) 4))
      have FA := Lib.hid (Flags.new W3 M 4)
      have FB := Lib.hid (Flags.new (W3.alloc (.cells (madeCells #[.bool false] M) 4)) M 4)
      have FC := Lib.hid (FA.out.below (below_box _ (.cells (madeCells #[.bool false] M) 4)))
      rw [World.size_alloc, hs3] at FB
      rw [hs3] at FC
      clear FA k2 k2a
      go_wp2_with fail
      go_loopw [34] (fun i wr => ∃ (j : Nat) (f q : Nat → Bool), j ≤ M ∧ i = .int .i64 j ∧ Hid (Game w wr bd a len cap) ∧ Hid (Keeps (g + 1) bd W3 wr) ∧ Hid (Flags wr (g + 1) M f) ∧ Hid (Flags wr (g + 1 + 1) M q) ∧ Hid (∀ t, t < j → f t = true → q t = true)) (fun i _ => M - (intOf i).toNat)
      case atStart => exact ⟨0, _, _, Nat.zero_le _, rfl, GA.out.drew, KP.out.drew, by first | exact FC.out | exact FB.out, by first | exact FB.out | exact FC.out, fun t ht => by cases ht⟩
      case round => as_aux_lemma =>
        obtain ⟨j, f, q, hjM, rfl, gm0, kp, ff, fq, sub⟩ := hrel
        by_cases hj : j < M
        · go_wp2_with fail
          refine (one_is gm0.out HR.out 3 (by decide)).mono ?_; rintro e W5 ⟨r, rfl, gm, gb⟩
          have F5 := Lib.hid (ff.out.other gb (by simp; omega))
          have Q5 := Lib.hid (fq.out.other gb (by simp; omega))
          have K5 := Lib.hid (kp.out.grown gb (by have := kp.out.1; omega) (fun k hk => by cases hk; exact .inl rfl))
          have G5 := Lib.hid gm
          clear gm gb
          obtain ⟨-, x2⟩ := F5.out.get hj
          have x1 := (F5.out.get hj).1
          cases r
          · have F6 := Lib.hid (F5.out.set j hj true)
            have gp := gb_set (b := g + 1) (i := j) (Value.bool true) (gb_refl W5 (some (g + 1)))
            have Q6 := Lib.hid (Q5.out.other gp (by simp))
            have K6 := Lib.hid (K5.out.grown gp (by have := K5.out.1; omega) (fun k hk => by cases hk; exact .inr (by omega)))
            have G6 := Lib.hid (G5.out.grown gp (by simp; omega) (fun k hk => by cases hk; have := G3.out.mine; have := HB.out; omega))
            obtain ⟨y1, -⟩ := F6.out.get hj
            rw [upd_eq] at y1
            obtain ⟨y3, y4⟩ := Q6.out.get hj
            have gq := gb_set (b := g + 1 + 1) (i := j) (Value.bool true) (gb_refl (W5.setCell ⟨g + 1, j, none⟩ (.bool true)) (some (g + 1 + 1)))
            have Q7 := Lib.hid (Q6.out.set j hj true)
            have F7 := Lib.hid (F6.out.other gq (by simp))
            have K7 := Lib.hid (K6.out.grown gq (by have := K6.out.1; omega) (fun k hk => by cases hk; exact .inr (by omega)))
            have G7 := Lib.hid (G6.out.grown gq (by simp; omega) (fun k hk => by cases hk; have := G3.out.mine; have := HB.out; omega))
            have sub7 : Hid (∀ t, t < j + 1 → upd f j true t = true → upd q j true t = true) := fun t ht h => by
              by_cases e : t = j
              · subst e; rw [upd_eq]
              · rw [upd_ne _ _ e] at h ⊢; exact sub.out t (by omega) h
            clear gp gq
            go_wp2
            go_roundw
            case rel => exact ⟨j + 1, _, _, by omega, by go_num, G7, K7, F7, Q7, sub7⟩
            case measure => simp [intOf]; omega
          · have F6 := Lib.hid (F5.out.set j hj false)
            have gp := gb_set (b := g + 1) (i := j) (Value.bool false) (gb_refl W5 (some (g + 1)))
            have Q6 := Lib.hid (Q5.out.other gp (by simp))
            have K6 := Lib.hid (K5.out.grown gp (by have := K5.out.1; omega) (fun k hk => by cases hk; exact .inr (by omega)))
            have G6 := Lib.hid (G5.out.grown gp (by simp; omega) (fun k hk => by cases hk; have := G3.out.mine; have := HB.out; omega))
            obtain ⟨y1, -⟩ := F6.out.get hj
            rw [upd_eq] at y1
            have ON := Lib.hid (one_is G6.out HR.out 2 (by decide))
            clear gp
            go_wp2_with fail
            refine ON.out.mono ?_; rintro e W8 ⟨r, rfl, gm, gb⟩
            have F8 := Lib.hid (F6.out.other gb (by simp; omega))
            have Q8 := Lib.hid (Q6.out.other gb (by simp; omega))
            have K8 := Lib.hid (K6.out.grown gb (by have := K6.out.1; omega) (fun k hk => by cases hk; exact .inl rfl))
            obtain ⟨y3, y4⟩ := Q8.out.get hj
            have gq := gb_set (b := g + 1 + 1) (i := j) (Value.bool r) (gb_refl W8 (some (g + 1 + 1)))
            have Q7 := Lib.hid (Q8.out.set j hj r)
            have F7 := Lib.hid (F8.out.other gq (by simp))
            have K7 := Lib.hid (K8.out.grown gq (by have := K8.out.1; omega) (fun k hk => by cases hk; exact .inr (by omega)))
            have G7 := Lib.hid (gm.grown gq (by simp; omega) (fun k hk => by cases hk; have := G3.out.mine; have := HB.out; omega))
            have sub7 : Hid (∀ t, t < j + 1 → upd f j false t = true → upd q j r t = true) := fun t ht h => by
              by_cases e : t = j
              · subst e; rw [upd_eq] at h; cases h
              · rw [upd_ne _ _ e] at h ⊢; exact sub.out t (by omega) h
            clear gm gb gq
            go_wp2
            go_roundw
            case rel => exact ⟨j + 1, _, _, by omega, by go_num, G7, K7, F7, Q7, sub7⟩
            case measure => simp [intOf]; omega
        · obtain rfl : M = j := by omega
          have NTW := Lib.hid (NT.out.keeps kp.out (by omega) hgb)
          obtain ⟨k1, k2, -⟩ := NTW.out
          have gr0 := gb_refl wr (some bd)
          have gm1 := gm0.out
          go_wp2_with fail
          go_region_held3 (fun w' => w'.cell? ⟨g, 0, none⟩ = some (.slice an N cn) ∧ w'.cell? ⟨g, 1, none⟩ = some (.slice ad M cd) ∧ Game w w' bd a len cap ∧ wr.grownBy w' (some bd))
            (first | exact two_drew ⟨k1, k2, gm1, gr0⟩ | exact ⟨k1, k2, gm1, gr0⟩ | exact two_drew (by assumption) | exact two_keep (by assumption) hgb (by assumption) (by assumption) | exact two_drew (two_keep (by assumption) hgb (by assumption) (by assumption)) | go_keep)
            (first
              | (go_at_call 22; refine ((two_game (by assumption)).1.next HR.out _ (by omega)).mono ?_; rintro e w7 ⟨r1, rfl, r10, r11, gm, gb⟩))
          rename_i fr fr0 fr1 fgm fgb hS
          have S7 := two_game hS
          have GM := Lib.hid S7.1
          have KP7 := Lib.hid (kp.out.grown S7.2 (by have := kp.out.1; omega) (fun k hk => by cases hk; exact .inl rfl))
          have F7 := Lib.hid (ff.out.other S7.2 (by simp; omega))
          have Q7 := Lib.hid (fq.out.other S7.2 (by simp; omega))
          have NI7 := Lib.hid (NI3.out.keeps KP7.out (by omega) Z1.out Z2.out)
          have NT7 := Lib.hid (NT.out.keeps KP7.out (by omega) hgb)
          have hfr : 0 ≤ fr ∧ fr < N := by omega
          have hto : 0 ≤ r1 ∧ r1 < N := by omega
          clear hS S7 fgm fgb gm gb fr0 fr1 r10 r11 k1 k2 gr0 gm1 kp ff fq gm0
          obtain ⟨k1, k2, -⟩ := NT7.out
          go_wp2_with fail
          refine (way_is an ad (some ⟨g + 1, 0, none⟩) N cn M cd M M ns ds (usL M f) fr r1 w7 (H.out.below GM.out.below) NI7.out F7.out.rin (usL_len M f) (by unfold maxLen; omega) (by omega) (by omega) (by omega) (by omega)).mono ?_
          rintro e w8 ⟨v, xs, ok, er, rfl, nu, b8, wi⟩
          obtain ⟨av, cv, ev, hxl⟩ := AggsAt.length nu encN_len
          subst ev
          have GM8 := Lib.hid (GM.out.by_below b8)
          have NI8 := Lib.hid (NI7.out.below b8)
          have Q8 := Lib.hid (Q7.out.below b8)
          have NT8 := Lib.hid (NT7.out.below b8 NT7.out.2.2)
          have WI := Lib.hid wi
          clear k1 k2 nu b8 wi
          obtain ⟨k1, k2, -⟩ := NT8.out
          go_wp2_with fail
          refine (way_is an ad (some ⟨g + 1 + 1, 0, none⟩) N cn M cd M M ns ds (usL M q) fr r1 w8 (H.out.below GM8.out.below) NI8.out Q8.out.rin (usL_len M q) (by unfold maxLen; omega) (by omega) (by omega) (by omega) (by omega)).mono ?_
          rintro e w9 ⟨v, xs2, ok2, er2, rfl, nu, b9, wi⟩
          obtain ⟨av2, cv2, ev, hxl2⟩ := AggsAt.length nu encN_len
          subst ev
          have HC9 := Lib.hid (H.out.below (GM8.out.by_below b9).below)
          have B9 := Lib.hid (GM8.out.by_below b9).below
          obtain ⟨rfl, rfl, z3, z4⟩ := less_fact CH.out WI.out wi (by rw [usL_len, HM.out]) (by rw [usL_len, HM.out]) (by rw [HN.out]; exact hfr) (by rw [HN.out]; exact hto) (fun i hi => by rw [HM.out] at hi; rw [usL_get hi, usL_get hi]; exact sub.out i hi)
          obtain ⟨L, hL⟩ : ∃ L, xs.length = L := ⟨_, rfl⟩
          obtain ⟨L2, hL2⟩ : ∃ L, xs2.length = L := ⟨_, rfl⟩
          rw [hL] at z3 z4 ⊢
          rw [hL2] at z3 ⊢
          have hLm : L ≤ maxLen ∧ L2 ≤ maxLen := by omega
          unfold maxLen at hLm
          clear nu b9 wi WI k1 k2 hxl hxl2 hL hL2
          cases ok
          · have T : (fr != r1) = true := by
              rw [bne_iff_ne]; intro e; exact absurd (z4 e).1 Bool.false_ne_true
            clear z3 z4
            go_wp2_with fail
            refine (awake_is _ HC9.out).mono ?_; rintro e w10 ⟨rfl, b10⟩
            have B10 := Lib.hid (B9.out.trans (b10.mono B9.out.size))
            clear b10
            go_wp2
            go_ret
            exact ⟨rfl, B10.out⟩
          · obtain ⟨rfl, z5⟩ := z3 rfl
            by_cases e : fr = r1
            · have z6 := (z4 e).2
              subst z6
              have z7 : L2 = 0 := by omega
              subst z7
              subst e
              clear z4 z5
              go_wp2_with fail
              refine (awake_is _ HC9.out).mono ?_; rintro e w10 ⟨rfl, b10⟩
              have B10 := Lib.hid (B9.out.trans (b10.mono B9.out.size))
              clear b10
              go_wp2
              go_ret
              exact ⟨rfl, B10.out⟩
            · have T : (fr != r1) = true := by rw [bne_iff_ne]; exact e
              clear z4
              go_wp2_with fail
              all_goals (try (exfalso; omega))
              refine (awake_is _ HC9.out).mono ?_; rintro e w10 ⟨rfl, b10⟩
              have B10 := Lib.hid (B9.out.trans (b10.mono B9.out.size))
              clear b10
              go_wp2
              go_ret
              exact ⟨rfl, B10.out⟩
    · have KP : Hid (Keeps (g + 1) bd W3 ((W3.alloc (.cells (madeCells #[.bool false] M) 4)).alloc (.cells (madeCells #[.bool false] M) 4))) := ((Keeps.refl (g + 1) bd W3).alloc (by omega) _).alloc (by simp; omega) _
      have GA := Lib.hid ((G3.out.alloc (.cells (madeCells #[.bool false] M) 4)).alloc (.cells (madeCells #[.bool false] M) 4))
      have FA := Lib.hid (Flags.new W3 M 4)
      have FB := Lib.hid (Flags.new (W3.alloc (.cells (madeCells #[.bool false] M) 4)) M 4)
      have FC := Lib.hid (FA.out.below (below_box _ (.cells (madeCells #[.bool false] M) 4)))
      rw [World.size_alloc, hs3] at FB
      rw [hs3] at FC
      clear FA k2 k2a
      go_wp2_with fail
      go_loopw [34] (fun i wr => ∃ (j : Nat) (f q : Nat → Bool), j ≤ M ∧ i = .int .i64 j ∧ Hid (Game w wr bd a len cap) ∧ Hid (Keeps (g + 1) bd W3 wr) ∧ Hid (Flags wr (g + 1 + 1) M f) ∧ Hid (Flags wr (g + 1) M q) ∧ Hid (∀ t, t < j → f t = true → q t = true)) (fun i _ => M - (intOf i).toNat)
      case atStart => exact ⟨0, _, _, Nat.zero_le _, rfl, GA.out.drew, KP.out.drew, by first | exact FC.out | exact FB.out, by first | exact FB.out | exact FC.out, fun t ht => by cases ht⟩
      case round => as_aux_lemma =>
        obtain ⟨j, f, q, hjM, rfl, gm0, kp, ff, fq, sub⟩ := hrel
        by_cases hj : j < M
        · go_wp2_with fail
          refine (one_is gm0.out HR.out 3 (by decide)).mono ?_; rintro e W5 ⟨r, rfl, gm, gb⟩
          have F5 := Lib.hid (ff.out.other gb (by simp; omega))
          have Q5 := Lib.hid (fq.out.other gb (by simp; omega))
          have K5 := Lib.hid (kp.out.grown gb (by have := kp.out.1; omega) (fun k hk => by cases hk; exact .inl rfl))
          have G5 := Lib.hid gm
          clear gm gb
          obtain ⟨-, x2⟩ := F5.out.get hj
          have x1 := (F5.out.get hj).1
          cases r
          · have F6 := Lib.hid (F5.out.set j hj true)
            have gp := gb_set (b := g + 1 + 1) (i := j) (Value.bool true) (gb_refl W5 (some (g + 1 + 1)))
            have Q6 := Lib.hid (Q5.out.other gp (by simp))
            have K6 := Lib.hid (K5.out.grown gp (by have := K5.out.1; omega) (fun k hk => by cases hk; exact .inr (by omega)))
            have G6 := Lib.hid (G5.out.grown gp (by simp; omega) (fun k hk => by cases hk; have := G3.out.mine; have := HB.out; omega))
            obtain ⟨y1, -⟩ := F6.out.get hj
            rw [upd_eq] at y1
            obtain ⟨y3, y4⟩ := Q6.out.get hj
            have gq := gb_set (b := g + 1) (i := j) (Value.bool true) (gb_refl (W5.setCell ⟨g + 1 + 1, j, none⟩ (.bool true)) (some (g + 1)))
            have Q7 := Lib.hid (Q6.out.set j hj true)
            have F7 := Lib.hid (F6.out.other gq (by simp))
            have K7 := Lib.hid (K6.out.grown gq (by have := K6.out.1; omega) (fun k hk => by cases hk; exact .inr (by omega)))
            have G7 := Lib.hid (G6.out.grown gq (by simp; omega) (fun k hk => by cases hk; have := G3.out.mine; have := HB.out; omega))
            have sub7 : Hid (∀ t, t < j + 1 → upd f j true t = true → upd q j true t = true) := fun t ht h => by
              by_cases e : t = j
              · subst e; rw [upd_eq]
              · rw [upd_ne _ _ e] at h ⊢; exact sub.out t (by omega) h
            clear gp gq
            go_wp2
            go_roundw
            case rel => exact ⟨j + 1, _, _, by omega, by go_num, G7, K7, F7, Q7, sub7⟩
            case measure => simp [intOf]; omega
          · have F6 := Lib.hid (F5.out.set j hj false)
            have gp := gb_set (b := g + 1 + 1) (i := j) (Value.bool false) (gb_refl W5 (some (g + 1 + 1)))
            have Q6 := Lib.hid (Q5.out.other gp (by simp))
            have K6 := Lib.hid (K5.out.grown gp (by have := K5.out.1; omega) (fun k hk => by cases hk; exact .inr (by omega)))
            have G6 := Lib.hid (G5.out.grown gp (by simp; omega) (fun k hk => by cases hk; have := G3.out.mine; have := HB.out; omega))
            obtain ⟨y1, -⟩ := F6.out.get hj
            rw [upd_eq] at y1
            have ON := Lib.hid (one_is G6.out HR.out 2 (by decide))
            clear gp
            go_wp2_with fail
            refine ON.out.mono ?_; rintro e W8 ⟨r, rfl, gm, gb⟩
            have F8 := Lib.hid (F6.out.other gb (by simp; omega))
            have Q8 := Lib.hid (Q6.out.other gb (by simp; omega))
            have K8 := Lib.hid (K6.out.grown gb (by have := K6.out.1; omega) (fun k hk => by cases hk; exact .inl rfl))
            obtain ⟨y3, y4⟩ := Q8.out.get hj
            have gq := gb_set (b := g + 1) (i := j) (Value.bool r) (gb_refl W8 (some (g + 1)))
            have Q7 := Lib.hid (Q8.out.set j hj r)
            have F7 := Lib.hid (F8.out.other gq (by simp))
            have K7 := Lib.hid (K8.out.grown gq (by have := K8.out.1; omega) (fun k hk => by cases hk; exact .inr (by omega)))
            have G7 := Lib.hid (gm.grown gq (by simp; omega) (fun k hk => by cases hk; have := G3.out.mine; have := HB.out; omega))
            have sub7 : Hid (∀ t, t < j + 1 → upd f j false t = true → upd q j r t = true) := fun t ht h => by
              by_cases e : t = j
              · subst e; rw [upd_eq] at h; cases h
              · rw [upd_ne _ _ e] at h ⊢; exact sub.out t (by omega) h
            clear gm gb gq
            go_wp2
            go_roundw
            case rel => exact ⟨j + 1, _, _, by omega, by go_num, G7, K7, F7, Q7, sub7⟩
            case measure => simp [intOf]; omega
        · obtain rfl : M = j := by omega
          have NTW := Lib.hid (NT.out.keeps kp.out (by omega) hgb)
          obtain ⟨k1, k2, -⟩ := NTW.out
          have gr0 := gb_refl wr (some bd)
          have gm1 := gm0.out
          go_wp2_with fail
          go_region_held3 (fun w' => w'.cell? ⟨g, 0, none⟩ = some (.slice an N cn) ∧ w'.cell? ⟨g, 1, none⟩ = some (.slice ad M cd) ∧ Game w w' bd a len cap ∧ wr.grownBy w' (some bd))
            (first | exact two_drew ⟨k1, k2, gm1, gr0⟩ | exact ⟨k1, k2, gm1, gr0⟩ | exact two_drew (by assumption) | exact two_keep (by assumption) hgb (by assumption) (by assumption) | exact two_drew (two_keep (by assumption) hgb (by assumption) (by assumption)) | go_keep)
            (first
              | (go_at_call 22; refine ((two_game (by assumption)).1.next HR.out _ (by omega)).mono ?_; rintro e w7 ⟨r1, rfl, r10, r11, gm, gb⟩))
          rename_i fr fr0 fr1 fgm fgb hS
          have S7 := two_game hS
          have GM := Lib.hid S7.1
          have KP7 := Lib.hid (kp.out.grown S7.2 (by have := kp.out.1; omega) (fun k hk => by cases hk; exact .inl rfl))
          have F7 := Lib.hid (ff.out.other S7.2 (by simp; omega))
          have Q7 := Lib.hid (fq.out.other S7.2 (by simp; omega))
          have NI7 := Lib.hid (NI3.out.keeps KP7.out (by omega) Z1.out Z2.out)
          have NT7 := Lib.hid (NT.out.keeps KP7.out (by omega) hgb)
          have hfr : 0 ≤ fr ∧ fr < N := by omega
          have hto : 0 ≤ r1 ∧ r1 < N := by omega
          clear hS S7 fgm fgb gm gb fr0 fr1 r10 r11 k1 k2 gr0 gm1 kp ff fq gm0
          obtain ⟨k1, k2, -⟩ := NT7.out
          go_wp2_with fail
          refine (way_is an ad (some ⟨g + 1 + 1, 0, none⟩) N cn M cd M M ns ds (usL M f) fr r1 w7 (H.out.below GM.out.below) NI7.out F7.out.rin (usL_len M f) (by unfold maxLen; omega) (by omega) (by omega) (by omega) (by omega)).mono ?_
          rintro e w8 ⟨v, xs, ok, er, rfl, nu, b8, wi⟩
          obtain ⟨av, cv, ev, hxl⟩ := AggsAt.length nu encN_len
          subst ev
          have GM8 := Lib.hid (GM.out.by_below b8)
          have NI8 := Lib.hid (NI7.out.below b8)
          have Q8 := Lib.hid (Q7.out.below b8)
          have NT8 := Lib.hid (NT7.out.below b8 NT7.out.2.2)
          have WI := Lib.hid wi
          clear k1 k2 nu b8 wi
          obtain ⟨k1, k2, -⟩ := NT8.out
          go_wp2_with fail
          refine (way_is an ad (some ⟨g + 1, 0, none⟩) N cn M cd M M ns ds (usL M q) fr r1 w8 (H.out.below GM8.out.below) NI8.out Q8.out.rin (usL_len M q) (by unfold maxLen; omega) (by omega) (by omega) (by omega) (by omega)).mono ?_
          rintro e w9 ⟨v, xs2, ok2, er2, rfl, nu, b9, wi⟩
          obtain ⟨av2, cv2, ev, hxl2⟩ := AggsAt.length nu encN_len
          subst ev
          have HC9 := Lib.hid (H.out.below (GM8.out.by_below b9).below)
          have B9 := Lib.hid (GM8.out.by_below b9).below
          obtain ⟨rfl, rfl, z3, z4⟩ := less_fact CH.out WI.out wi (by rw [usL_len, HM.out]) (by rw [usL_len, HM.out]) (by rw [HN.out]; exact hfr) (by rw [HN.out]; exact hto) (fun i hi => by rw [HM.out] at hi; rw [usL_get hi, usL_get hi]; exact sub.out i hi)
          obtain ⟨L, hL⟩ : ∃ L, xs.length = L := ⟨_, rfl⟩
          obtain ⟨L2, hL2⟩ : ∃ L, xs2.length = L := ⟨_, rfl⟩
          rw [hL] at z3 z4 ⊢
          rw [hL2] at z3 ⊢
          have hLm : L ≤ maxLen ∧ L2 ≤ maxLen := by omega
          unfold maxLen at hLm
          clear nu b9 wi WI k1 k2 hxl hxl2 hL hL2
          cases ok
          · have T : (fr != r1) = true := by
              rw [bne_iff_ne]; intro e; exact absurd (z4 e).1 Bool.false_ne_true
            clear z3 z4
            go_wp2_with fail
            refine (awake_is _ HC9.out).mono ?_; rintro e w10 ⟨rfl, b10⟩
            have B10 := Lib.hid (B9.out.trans (b10.mono B9.out.size))
            clear b10
            go_wp2
            go_ret
            exact ⟨rfl, B10.out⟩
          · obtain ⟨rfl, z5⟩ := z3 rfl
            by_cases e : fr = r1
            · have z6 := (z4 e).2
              subst z6
              have z7 : L2 = 0 := by omega
              subst z7
              subst e
              clear z4 z5
              go_wp2_with fail
              refine (awake_is _ HC9.out).mono ?_; rintro e w10 ⟨rfl, b10⟩
              have B10 := Lib.hid (B9.out.trans (b10.mono B9.out.size))
              clear b10
              go_wp2
              go_ret
              exact ⟨rfl, B10.out⟩
            · have T : (fr != r1) = true := by rw [bne_iff_ne]; exact e
              clear z4
              go_wp2_with fail
              all_goals (try (exfalso; omega))
              refine (awake_is _ HC9.out).mono ?_; rintro e w10 ⟨rfl, b10⟩
              have B10 := Lib.hid (B9.out.trans (b10.mono B9.out.size))
              clear b10
              go_wp2
              go_ret
              exact ⟨rfl, B10.out⟩
  · have t1 : decide ((len : Int) ≤ 400) = false := decide_eq_false (by omega)
    go_enter Tryd.func5, Tryd.ntmps5
    go_wp2_with fail
    refine (few_any _ _ _ _ hl).mono ?_; rintro e w' ⟨rfl, rfl⟩
    go_wp2_with fail
    refine (awake_is _ H.out).mono ?_; rintro e w2 ⟨rfl, b2⟩
    go_wp2
    go_ret
    exact ⟨rfl, b2⟩
end Go.Proofs.YtleggojgcaefdaaDoor.net
