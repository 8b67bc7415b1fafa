/- For every list of numbers NetworkWays returns true: a way leads from one node to the other one, passes no node twice and has as few devices as the number of steps; there is one exactly if there is one back. Condition: the table 'classes' holds what the program's text lays (the card ties that). -/
import Derived.Test.YtleggojgcaefdaaDoorNetO
import Derived.Test.YtleggojgcaefdaaDoorNetQ
namespace Go.Proofs.YtleggojgcaefdaaDoor.net
open Go.RowKit lex aggs kit deck

set_option maxRecDepth 100000 in
set_option maxHeartbeats 2000000 in
theorem rother_is (a b : Option Addr) (N c M d : Nat) (ns : List Nd) (ds : List Dv) (i v r : Int) (w : World) (h : NetIn w a b N c M d ns ds) (i0 : -9223372036854775808 ≤ i) (i1 : i ≤ 9223372036854775807) (hr : othV ns ds i v = r) :
    Calls Tryd.prog 27 #[.agg #[.slice a N c, .slice b M d], .int .i64 i, .int .i64 v] w fun e w' => e = .returned (.int .i64 r) ∧ Below w.heap.size w w' := by
  have bx := below_box w (.cells #[.slice a N c, .slice b M d] 26)
  have NT := Lib.hid (NtAt.new w (.slice a N c) (.slice b M d) 26)
  have hb := Lib.hid (h.below bx)
  have n1 := h.dcap
  have n2 := h.dmax
  unfold maxLen at n2
  obtain ⟨E, hE⟩ : ∃ E, chk ns ds = E := ⟨_, rfl⟩
  have CK := Lib.hid (rcheck_is a b N c M d ns ds E _ hb.out hE)
  unfold othV at hr
  rw [hE, h.dlen] at hr
  have BX := Lib.hid bx
  have HR := Lib.hid hr
  clear bx hE hr h
  by_cases e0 : E = 0
  · subst e0
    by_cases h1 : 0 ≤ i
    · by_cases h2 : i < M
      · obtain ⟨k, rfl⟩ : ∃ k : Nat, i = k := ⟨i.toNat, by omega⟩
        have hkM : k < M := by omega
        have hkd : k < ds.length := by rw [hb.out.dlen]; exact hkM
        obtain ⟨g, o, rfl, hg, hc⟩ := hb.out.din.some (by omega)
        have hr2 : acr (ds.getD k default) v = r := by rw [← HR.out, if_pos ⟨rfl, h1, h2⟩]; rfl
        rw [getD_of hkd] at hr2
        have hc0 := cells_dv hc k hkd
        obtain ⟨x, hx⟩ : ∃ x, ds[k] = x := ⟨_, rfl⟩
        rw [hx] at hr2 hc0
        clear hx hc HR hkd
        obtain ⟨nm, ki, da, db, co⟩ := x
        unfold acr at hr2
        dsimp only at hr2 hc0
        have HR2 := Lib.hid hr2
        have J1 := Lib.hid (fun h W => rjoins_is ki true (decide_eq_true h) W)
        have J0 := Lib.hid (fun h W => rjoins_is ki false (decide_eq_false h) W)
        clear hr2
        by_cases hk : 1 ≤ ki ∧ ki ≤ 3
        · by_cases e1 : v = da
          · have e : r = db := by rw [← HR2.out, if_pos hk, if_pos e1]
            subst e
            subst e1
            go_enter Tryd.func27, Tryd.ntmps27
            go_wp2_with fail
            refine CK.out.mono ?_; rintro e w2 ⟨rfl, b2⟩
            have B2 := Lib.hid b2
            obtain ⟨k1, k2, k3⟩ := NT.out.below b2 NT.out.2.2
            obtain ⟨c0, c1, c2, c3, c4⟩ := hc0
            rw [← b2.cell (p := ⟨g, o + k * 5 + 1, none⟩) hg] at c1
            rw [← b2.cell (p := ⟨g, o + k * 5 + 2, none⟩) hg] at c2
            rw [← b2.cell (p := ⟨g, o + k * 5 + 3, none⟩) hg] at c3
            have HK := Lib.hid hk
            clear b2 c0 c4 hk
            go_wp2_with fail
            all_goals (try (exfalso; omega))
            refine (J1.out HK.out _).mono ?_; rintro e w' ⟨rfl, rfl⟩
            go_wp2
            go_ret
            exact ⟨rfl, BX.out.trans (B2.out.mono BX.out.size)⟩
          · by_cases e2 : v = db
            · have e : r = da := by rw [← HR2.out, if_pos hk, if_neg e1, if_pos e2]
              subst e
              subst e2
              have T1 : (r == v) = false := beq_eq_false_iff_ne.2 (fun e => e1 e.symm)
              go_enter Tryd.func27, Tryd.ntmps27
              go_wp2_with fail
              refine CK.out.mono ?_; rintro e w2 ⟨rfl, b2⟩
              have B2 := Lib.hid b2
              obtain ⟨k1, k2, k3⟩ := NT.out.below b2 NT.out.2.2
              obtain ⟨c0, c1, c2, c3, c4⟩ := hc0
              rw [← b2.cell (p := ⟨g, o + k * 5 + 1, none⟩) hg] at c1
              rw [← b2.cell (p := ⟨g, o + k * 5 + 2, none⟩) hg] at c2
              rw [← b2.cell (p := ⟨g, o + k * 5 + 3, none⟩) hg] at c3
              have HK := Lib.hid hk
              clear b2 c0 c4 hk
              go_wp2_with fail
              all_goals (try (exfalso; omega))
              refine (J1.out HK.out _).mono ?_; rintro e w' ⟨rfl, rfl⟩
              go_wp2
              go_ret
              exact ⟨rfl, BX.out.trans (B2.out.mono BX.out.size)⟩
            · have e : r = -1 := by rw [← HR2.out, if_pos hk, if_neg e1, if_neg e2]
              subst e
              have T1 : (da == v) = false := beq_eq_false_iff_ne.2 (fun e => e1 e.symm)
              have T2 : (db == v) = false := beq_eq_false_iff_ne.2 (fun e => e2 e.symm)
              go_enter Tryd.func27, Tryd.ntmps27
              go_wp2_with fail
              refine CK.out.mono ?_; rintro e w2 ⟨rfl, b2⟩
              have B2 := Lib.hid b2
              obtain ⟨k1, k2, k3⟩ := NT.out.below b2 NT.out.2.2
              obtain ⟨c0, c1, c2, c3, c4⟩ := hc0
              rw [← b2.cell (p := ⟨g, o + k * 5 + 1, none⟩) hg] at c1
              rw [← b2.cell (p := ⟨g, o + k * 5 + 2, none⟩) hg] at c2
              rw [← b2.cell (p := ⟨g, o + k * 5 + 3, none⟩) hg] at c3
              have HK := Lib.hid hk
              clear b2 c0 c4 hk
              go_wp2_with fail
              all_goals (try (exfalso; omega))
              refine (J1.out HK.out _).mono ?_; rintro e w' ⟨rfl, rfl⟩
              go_wp2
              go_ret
              exact ⟨rfl, BX.out.trans (B2.out.mono BX.out.size)⟩
        · have e : r = -1 := by rw [← HR2.out, if_neg hk]
          subst e
          go_enter Tryd.func27, Tryd.ntmps27
          go_wp2_with fail
          refine CK.out.mono ?_; rintro e w2 ⟨rfl, b2⟩
          have B2 := Lib.hid b2
          obtain ⟨k1, k2, k3⟩ := NT.out.below b2 NT.out.2.2
          obtain ⟨c0, c1, c2, c3, c4⟩ := hc0
          rw [← b2.cell (p := ⟨g, o + k * 5 + 1, none⟩) hg] at c1
          rw [← b2.cell (p := ⟨g, o + k * 5 + 2, none⟩) hg] at c2
          rw [← b2.cell (p := ⟨g, o + k * 5 + 3, none⟩) hg] at c3
          have HK := Lib.hid hk
          clear b2 c0 c4 hk
          go_wp2_with fail
          all_goals (try (exfalso; omega))
          refine (J0.out HK.out _).mono ?_; rintro e w' ⟨rfl, rfl⟩
          go_wp2
          go_ret
          exact ⟨rfl, BX.out.trans (B2.out.mono BX.out.size)⟩
      · have e : r = -1 := by rw [← HR.out, if_neg (fun h => h2 h.2.2)]
        subst e
        go_enter Tryd.func27, Tryd.ntmps27
        go_wp2_with fail
        refine CK.out.mono ?_; rintro e w2 ⟨rfl, b2⟩
        have B2 := Lib.hid b2
        obtain ⟨k1, k2, k3⟩ := NT.out.below b2 NT.out.2.2
        clear b2
        go_wp2
        all_goals (first | (exfalso; omega) | (go_ret; exact ⟨rfl, BX.out.trans (B2.out.mono BX.out.size)⟩))
    · have e : r = -1 := by rw [← HR.out, if_neg (fun h => h1 h.2.1)]
      subst e
      go_enter Tryd.func27, Tryd.ntmps27
      go_wp2_with fail
      refine CK.out.mono ?_; rintro e w2 ⟨rfl, b2⟩
      have B2 := Lib.hid b2
      obtain ⟨k1, k2, k3⟩ := NT.out.below b2 NT.out.2.2
      clear b2
      go_wp2
      all_goals (first | (exfalso; omega) | (go_ret; exact ⟨rfl, BX.out.trans (B2.out.mono BX.out.size)⟩))
  · have e : r = -1 := by rw [← HR.out, if_neg (fun h => e0 h.1)]
    have T := bne_t e0
    subst e
    clear e0
    go_enter Tryd.func27, Tryd.ntmps27
    go_wp2_with fail
    refine CK.out.mono ?_; rintro e w2 ⟨rfl, b2⟩
    have B2 := Lib.hid b2
    obtain ⟨k1, k2, k3⟩ := NT.out.below b2 NT.out.2.2
    clear b2
    go_wp2
    all_goals (first | (exfalso; omega) | (go_ret; exact ⟨rfl, BX.out.trans (B2.out.mono BX.out.size)⟩))
set_option maxRecDepth 100000 in
theorem rhas_is (xs : List Nat) (v : Value) (L : Nat) (base : Nat) (t : Nat) (r : Bool) (w : World) (h : NumsAt w base v xs) (hL : xs.length = L) (hLm : L ≤ 100) (hr : decide (t ∈ xs) = r) :
    Calls Tryd.prog 37 #[v, .int .i64 t] w fun e w' => e = .returned (.bool r) ∧ w = w' := by
  obtain ⟨rb, av, cv, rfl, hrow⟩ := nums_row h
  rw [hL] at hrow ⊢
  have HROW := Lib.hid hrow
  have HLL := Lib.hid hL
  have HR := Lib.hid hr
  clear h hL hr hrow
  go_enter Tryd.func37, Tryd.ntmps37
  go_wp2
  go_loop [5] (fun i => ∃ j : Nat, j ≤ L ∧ i = .int .i64 j ∧ Hid (∀ k (hk : k < xs.length), k < j → xs[k] ≠ t)) (fun i => L - (intOf i).toNat)
  case atStart => exact ⟨0, Nat.zero_le _, rfl, fun k _ hk => by cases hk⟩
  case round =>
    obtain ⟨j, hj, rfl, hno⟩ := hrel
    by_cases hjL : j < L
    · obtain ⟨rfl, row, -⟩ := HROW.out (by omega)
      have hjx : j < xs.length := by rw [HLL.out]; exact hjL
      have f0 := row.2 j hjx
      obtain ⟨x, hx⟩ : ∃ x, xs[j] = x := ⟨_, rfl⟩
      rw [hx] at f0
      have HX := Lib.hid hx
      by_cases e : x = t
      · have hr' : r = true := by
          rw [← HR.out]; refine decide_eq_true ?_
          rw [← e, ← hx]; exact List.getElem_mem hjx
        subst hr'
        subst e
        clear hx hjx HX row
        go_wp2
        go_ret
        exact ⟨rfl, rfl⟩
      · have T : ((x : Int) == t) = false := by rw [beq_eq_false_iff_ne]; omega
        have hnext : Hid (∀ k (hk : k < xs.length), k < j + 1 → xs[k] ≠ t) := fun k hk hkj => by
          by_cases e1 : k = j
          · subst e1; rw [HX.out]; exact e
          · exact hno.out k hk (by omega)
        clear e hx hjx HX hno row
        go_wp2
        go_round
        case rel => exact ⟨j + 1, by omega, by go_num, hnext⟩
        case measure => simp [intOf]; omega
    · obtain rfl : L = j := by omega
      have hr' : r = false := by
        rw [← HR.out]; refine decide_eq_false (fun hm => ?_)
        obtain ⟨k, hk, e⟩ := List.mem_iff_getElem.1 hm
        exact hno.out k hk (by rw [HLL.out] at hk; exact hk) e
      subst hr'
      go_wp2
      go_ret
      exact ⟨rfl, rfl⟩
theorem ways_fact {ns : List Nd} {ds : List Dv} {us : List Bool} {f t : Int} {xs xs2 : List Nat} {ok ok2 : Bool} {er er2 : Int} (hc : chk ns ds = 0) (h1 : WayIs ns ds us f t xs ok er) (h2 : WayIs ns ds us t f xs2 ok2 er2) (l1 : us.length = ds.length)
    (hf : 0 ≤ f ∧ f < ns.length) (ht : 0 ≤ t ∧ t < ns.length) :
    er = 0 ∧ er2 = 0 ∧ ok2 = ok ∧ xs2.length = xs.length ∧ xs.length < ns.length ∧ (ok = false → xs.length = 0) ∧
      (ok = true → ∃ D, IsDist (nb ds us) ds.length ns.length t.toNat D ∧ D f.toNat = xs.length ∧ xs = wayL (nb ds us) ds.length D xs.length f.toNat) := by
  unfold WayIs at h1 h2
  rw [if_pos hc, if_pos l1, if_pos ⟨hf, ht⟩] at h1
  rw [if_pos hc, if_pos l1, if_pos ⟨ht, hf⟩] at h2
  obtain ⟨e1, D, hD, h1⟩ := h1
  obtain ⟨e2, D2, hD2, h2⟩ := h2
  have hb := hD.both hD2
  have hfN : f.toNat < ns.length := by omega
  rcases h1 with ⟨a1, a2, a3⟩ | ⟨n, a1, a2, a3⟩
  · rcases h2 with ⟨b1, b2, b3⟩ | ⟨m, b1, b2, b3⟩
    · subst a2 a3 b2 b3
      refine ⟨e1, e2, rfl, rfl, ?_, fun _ => rfl, fun h => by cases h⟩
      show 0 < ns.length; omega
    · omega
  · rcases h2 with ⟨b1, b2, b3⟩ | ⟨m, b1, b2, b3⟩
    · omega
    · have hlt := hD.lt f.toNat hfN
      have hl1 : xs.length = n := by rw [a3, wayL_length]
      have hl2 : xs2.length = m := by rw [b3, wayL_length]
      refine ⟨e1, e2, by rw [a2, b2], by omega, by omega, fun h => (by rw [a2] at h; cases h), fun _ => ⟨D, hD, by rw [hl1]; exact a1, by rw [hl1]; exact a3⟩⟩
theorem nums_new (w : World) (n base : Nat) (hb : base ≤ w.heap.size) : NumsAt (w.alloc (.cells #[.int .i64 (n : Int)] 3)) base (.slice (some ⟨w.heap.size, 0, none⟩) 1 1) [n] :=
  ⟨rfl, .inr ⟨w.heap.size, 1, _, rfl, hb, heap_alloc_new w _, Nat.le_refl _, by decide, rfl, rfl⟩⟩
theorem nb_use {ds : List Dv} {us : List Bool} {i v u : Nat} (h : nb ds us i v = u) : us.getD i false = true ∧ acr (ds.getD i default) v = u := by
  unfold nb at h
  by_cases e : us.getD i false = true
  · rw [if_pos e] at h; exact ⟨e, h⟩
  · rw [if_neg e] at h; omega
set_option maxRecDepth 100000 in
set_option maxHeartbeats 8000000 in
theorem ways_walk (a : Option Addr) (len cap : Nat) (zs : List Int) (w : World) (hr : IsRow .i64 w a len cap zs) (h : HasClasses w) :
    Calls Tryd.prog 4 #[.slice a len cap] w fun e w' => e = .returned (.bool true) ∧ Below w.heap.size w w' := by
  have hl : len ≤ 9223372036854775807 := by
    rcases hr with ⟨_, h, _⟩ | ⟨_, _, h1, h2, _⟩
    · omega
    · unfold maxLen at h2; omega
  have H := Lib.hid h
  have HR := Lib.hid hr
  clear h hr
  by_cases h4 : len ≤ 400
  · have t1 : decide ((len : Int) ≤ 400) = true := decide_eq_true (by omega)
    go_enter Tryd.func4, Tryd.ntmps4
    go_wp2_with fail
    refine (few_any _ _ _ _ hl).mono ?_; rintro e w' ⟨rfl, rfl⟩
    go_wp2_with fail
    refine (newg_any _ _ _ _).mono ?_; rintro e w1 ⟨rfl, g1⟩
    have hbw := g1.lt
    obtain ⟨bd, hbd⟩ : ∃ b, w.heap.size = b := ⟨_, rfl⟩
    have HB := Lib.hid hbd
    rw [hbd] at hbw g1 ⊢
    clear hbd
    go_wp2_with fail
    refine (network_is (nodes := 8) (devices := 14) g1 HR.out (by decide) (by decide) (by decide) (by decide)).mono ?_
    rintro e W2 ⟨vn, vd, ns, ds, rfl, g2, rn, rd, gn, gd, n1, n2, d1, d2⟩
    obtain ⟨an, cn, ad, cd, rfl, rfl, ni, z1, z2⟩ := rows_net rn rd (by omega) gn gd hbw
    have CH := Lib.hid (good_chk (by omega) (by omega) gn gd)
    obtain ⟨N, hN⟩ : ∃ N, ns.length = N := ⟨_, rfl⟩
    obtain ⟨M, hM⟩ : ∃ M, ds.length = M := ⟨_, rfl⟩
    have HN := Lib.hid hN
    have HM := Lib.hid hM
    rw [hN] at n1 n2 ni ⊢
    rw [hM] at d1 d2 ni ⊢
    have NI := Lib.hid ni
    have Z1 := Lib.hid z1
    have Z2 := Lib.hid z2
    have hb2 := g2.lt
    have NT := Lib.hid (NtAt.new W2 (.slice an N cn) (.slice ad M cd) 26)
    have G3 := Lib.hid (g2.alloc (.cells #[.slice an N cn, .slice ad M cd] 26))
    clear rn rd gn gd hN hM ni z1 z2 g1 g2 hbw w1
    have hmk := make_flags M (by omega)
    obtain ⟨g, hg⟩ : ∃ g, W2.heap.size = g := ⟨_, rfl⟩
    rw [hg] at NT hb2
    obtain ⟨W3, hW3⟩ : ∃ W3, W2.alloc (.cells #[.slice an N cn, .slice ad M cd] 26) = W3 := ⟨_, rfl⟩
    have NI3 := Lib.hid (NI.out.below (below_box W2 (.cells #[.slice an N cn, .slice ad M cd] 26)))
    have hs3 : W3.heap.size = g + 1 := by rw [← hW3, ← hg]; simp
    rw [hW3] at NT G3 NI3
    have k2 := NT.out.2.1
    have hgb : g ≠ bd := by omega
    clear NI
    have KP : Hid (Keeps (g + 1) bd W3 (W3.alloc (.cells (madeCells #[.bool false] M) 4))) := (Keeps.refl (g + 1) bd W3).alloc (by omega) _
    have GA := Lib.hid (G3.out.alloc (.cells (madeCells #[.bool false] M) 4))
    have FA := Lib.hid (Flags.new W3 M 4)
    rw [hs3] at FA
    go_wp2_with fail
    clear hW3 hg k2
    go_loopw [33] (fun i wr => ∃ (j : Nat) (f : Nat → Bool), j ≤ M ∧ i = .int .i64 j ∧ Hid (Game w wr bd a len cap) ∧ Hid (Keeps (g + 1) bd W3 wr) ∧ Hid (Flags wr (g + 1) M f)) (fun i _ => M - (intOf i).toNat)
    case atStart => exact ⟨0, _, Nat.zero_le _, rfl, GA, KP, FA⟩
    case round => as_aux_lemma =>
      clear KP GA FA
      obtain ⟨j, f, hjM, rfl, gm0, kp, ff⟩ := hrel
      by_cases hj : j < M
      · go_wp2_with fail
        refine (one_is gm0.out HR.out 4 (by decide)).mono ?_; rintro e W5 ⟨r, rfl, gm, gb⟩
        have F5 := Lib.hid (ff.out.other gb (by simp; omega))
        have K5 := Lib.hid (kp.out.grown gb (by have := kp.out.1; omega) (fun k hk => by cases hk; exact .inl rfl))
        have G5 := Lib.hid gm
        clear gm gb
        obtain ⟨x1, x2⟩ := F5.out.get hj
        have gp := gb_set (b := g + 1) (i := j) (Value.bool (!r)) (gb_refl W5 (some (g + 1)))
        have F6 := Lib.hid (F5.out.set j hj (!r))
        have K6 := Lib.hid (K5.out.grown gp (by have := K5.out.1; omega) (fun k hk => by cases hk; exact .inr (by omega)))
        have G6 := Lib.hid (G5.out.grown gp (by simp; omega) (fun k hk => by cases hk; have := G3.out.mine; have := HB.out; omega))
        clear gp
        go_wp2
        go_roundw
        case rel => exact ⟨j + 1, _, by omega, by go_num, G6, K6, F6⟩
        case measure => simp [intOf]; omega
      · obtain rfl : M = j := by omega
        have NTW := Lib.hid (NT.out.keeps kp.out (by omega) hgb)
        obtain ⟨k1, k2, -⟩ := NTW.out
        have gr0 := gb_refl wr (some bd)
        have gm1 := gm0.out
        go_wp2_with fail
        go_region_held3 (fun w' => w'.cell? ⟨g, 0, none⟩ = some (.slice an N cn) ∧ w'.cell? ⟨g, 1, none⟩ = some (.slice ad M cd) ∧ Game w w' bd a len cap ∧ wr.grownBy w' (some bd))
          (first | exact two_drew ⟨k1, k2, gm1, gr0⟩ | exact ⟨k1, k2, gm1, gr0⟩ | exact two_drew (by assumption) | exact two_keep (by assumption) hgb (by assumption) (by assumption) | exact two_drew (two_keep (by assumption) hgb (by assumption) (by assumption)) | go_keep)
          (first
            | (go_at_call 22; refine ((two_game (by assumption)).1.next HR.out _ (by omega)).mono ?_; rintro e w7 ⟨r1, rfl, r10, r11, gm, gb⟩))
        rename_i fr fr0 fr1 fgm fgb hS
        have S7 := two_game hS
        have GM := Lib.hid S7.1
        have KP7 := Lib.hid (kp.out.grown S7.2 (by have := kp.out.1; omega) (fun k hk => by cases hk; exact .inl rfl))
        have F7 := Lib.hid (ff.out.other S7.2 (by simp; omega))
        have NI7 := Lib.hid (NI3.out.keeps KP7.out (by omega) Z1.out Z2.out)
        have NT7 := Lib.hid (NT.out.keeps KP7.out (by omega) hgb)
        obtain ⟨fn, rfl⟩ : ∃ k : Nat, fr = k := ⟨fr.toNat, by omega⟩
        obtain ⟨tn, rfl⟩ : ∃ k : Nat, r1 = k := ⟨r1.toNat, by omega⟩
        have hfr : fn < N := by omega
        have hto : tn < N := by omega
        clear hS S7 fgm fgb gm gb fr0 fr1 r10 r11 k1 k2 gr0 gm1 kp ff gm0
        obtain ⟨k1, k2, -⟩ := NT7.out
        go_wp2_with fail
        refine (way_is an ad (some ⟨g + 1, 0, none⟩) N cn M cd M M ns ds (usL M f) fn tn w7 (H.out.below GM.out.below) NI7.out F7.out.rin (usL_len M f) (by unfold maxLen; omega) (by omega) (by omega) (by omega) (by omega)).mono ?_
        rintro e w8 ⟨v, xs, ok, er, rfl, nu, b8, wi⟩
        have GM8 := Lib.hid (GM.out.by_below b8)
        have NI8 := Lib.hid (NI7.out.below b8)
        have F8 := Lib.hid (F7.out.below b8)
        have NT8 := Lib.hid (NT7.out.below b8 NT7.out.2.2)
        have WI := Lib.hid wi
        have NU := Lib.hid nu
        obtain ⟨rb, av, cv, rfl, hrow⟩ := nums_row nu
        obtain ⟨L, hL⟩ : ∃ L, xs.length = L := ⟨_, rfl⟩
        rw [hL] at hrow ⊢
        have HROW := Lib.hid hrow
        clear k1 k2 nu b8 wi hrow
        obtain ⟨k1, k2, -⟩ := NT8.out
        go_wp2_with fail
        refine (way_is an ad (some ⟨g + 1, 0, none⟩) N cn M cd M M ns ds (usL M f) tn fn w8 (H.out.below GM8.out.below) NI8.out F8.out.rin (usL_len M f) (by unfold maxLen; omega) (by omega) (by omega) (by omega) (by omega)).mono ?_
        rintro e w9 ⟨v, xs2, ok2, er2, rfl, nu, b9, wi⟩
        obtain ⟨av2, cv2, ev, hxl2⟩ := AggsAt.length nu encN_len
        subst ev
        have HC9 := Lib.hid (H.out.below (GM8.out.by_below b9).below)
        have B9 := Lib.hid (GM8.out.by_below b9).below
        have NI9 := Lib.hid (NI8.out.below b9)
        have F9 := Lib.hid (F8.out.below b9)
        have NT9 := Lib.hid (NT8.out.below b9 NT8.out.2.2)
        have ROW9 : Hid (0 < L → av = some ⟨rb, 0, none⟩ ∧ RowN w9 rb xs) := fun h => ⟨(HROW.out h).1, (HROW.out h).2.1.below b9⟩
        obtain ⟨rfl, rfl, rfl, z2, z3, z4, z5⟩ := ways_fact CH.out WI.out wi (by rw [usL_len, HM.out]) (by rw [HN.out]; omega) (by rw [HN.out]; omega)
        rw [z2, hL] at ⊢
        rw [hL] at z3 z4 z5
        rw [HN.out] at z3
        have hL8 : L < 8 := by omega
        have HL := Lib.hid hL
        clear nu b9 wi WI k1 k2 hxl2 hL z2 HROW NU
        obtain ⟨k1, k2, -⟩ := NT9.out
        cases ok2
        · have z6 := z4 rfl
          subst z6
          clear z4 z5 z3
          go_wp2_with fail
          all_goals (try (exfalso; omega))
          refine (awake_is _ HC9.out).mono ?_; rintro e w10 ⟨rfl, b10⟩
          have B10 := Lib.hid (B9.out.trans (b10.mono B9.out.size))
          clear b10
          go_wp2
          go_ret
          exact ⟨rfl, B10.out⟩
        · have Z5 := Lib.hid (z5 rfl)
          obtain ⟨D, hD, hDf, hW⟩ := Z5.out
          rw [HM.out, HN.out] at hD
          rw [Int.toNat_natCast] at hDf hW
          rw [Int.toNat_natCast] at hD
          rw [HM.out] at hW
          have HD := Lib.hid hD
          have SY : Hid (Sym (nb ds (usL M f)) M N) := by
            have := nb_sym (us := usL M f) (N := N) (ds := ds) (fun i hi => by have := chk_its CH.out i hi; rwa [HN.out] at this)
            rw [HM.out] at this; exact this
          have W0 : Hid (xs.drop 0 = wayL (nb ds (usL M f)) M D L fn) := by show _ = _; rw [List.drop_zero]; exact hW
          have D0 := Lib.hid hDf
          have SN := Lib.hid (nums_new w9 fn w9.heap.size (Nat.le_refl _))
          have b10 := below_box w9 (.cells #[.int .i64 (fn : Int)] 3)
          have B10 := Lib.hid b10
          clear z4 z5 Z5 hD hDf hW b10
          obtain ⟨Q, hQ⟩ : ∃ Q, w9.heap.size = Q := ⟨_, rfl⟩
          have HQ := Lib.hid hQ
          rw [hQ] at SN B10
          have TN : decide (N ≤ L) = false := decide_eq_false (by omega)
          have TN2 : decide ((N : Int) ≤ L) = false := decide_eq_false (by omega)
          go_wp2_with fail
          all_goals (try (exfalso; omega))
          clear hQ k1 k2
          go_loopw [15, 16, 110] (fun p q i wr => ∃ (j v : Nat) (sl : List Nat), j ≤ L ∧ v < N ∧ q = .int .i64 v ∧ i = .int .i64 j ∧ Hid (sl.length = j + 1) ∧ Hid (Below Q w9 wr) ∧ Hid (NumsAt wr Q p sl) ∧ Hid (D v = ((L - j : Nat) : Int)) ∧ Hid (xs.drop j = wayL (nb ds (usL M f)) M D (L - j) v) ∧ Hid (∀ s ∈ sl, ((L - j : Nat) : Int) ≤ D s)) (fun _ _ i _ => L - (intOf i).toNat)
          case atStart =>
            refine ⟨0, fn, [fn], Nat.zero_le _, hfr, rfl, rfl, rfl, B10, SN, D0, W0, fun s hs => ?_⟩
            obtain rfl : s = fn := by simpa using hs
            exact Int.le_of_eq D0.out.symm
          case round => as_aux_lemma =>
            clear B10 SN D0 W0
            obtain ⟨j, v, sl, hjL, hvN, rfl, rfl, hsl, bel, sn, dv, dr, sb⟩ := hrel
            have bw : Hid (Below w9.heap.size w9 wr) := by show Below _ _ _; rw [HQ.out]; exact bel.out
            have hQw : Q ≤ wr.heap.size := by have := bel.out.size; have := HQ.out; omega
            have NTW := Lib.hid (NT9.out.below bw.out NT9.out.2.2)
            obtain ⟨k1, k2, -⟩ := NTW.out
            by_cases hj : j < L
            · obtain ⟨hav, row⟩ := ROW9.out (by omega)
              subst hav
              have hjx : j < xs.length := by rw [HL.out]; exact hj
              have rw' := row.below bw.out
              have f0 := rw'.2 j hjx
              have dr2 := dr.out
              rw [List.drop_eq_getElem_cons hjx, show L - j = (L - j - 1) + 1 from by omega, wayL] at dr2
              injection dr2 with e1 e2
              obtain ⟨x1, ⟨u, hu, gu, du⟩, -, -⟩ := HD.out.next SY.out v hvN (by rw [dv.out]; omega)
              rw [← e1] at x1 gu e2
              obtain ⟨x, hx⟩ : ∃ x, xs[j] = x := ⟨_, rfl⟩
              rw [hx] at f0 x1 gu e2
              obtain ⟨us1, ac⟩ := nb_use gu
              rw [usL_get x1] at us1
              obtain ⟨y1, -⟩ := (F9.out.below bw.out).get x1
              rw [us1] at y1
              have OT : Hid (othV ns ds x v = u) := by
                show _ = _
                unfold othV; rw [if_pos ⟨CH.out, by omega, by rw [HM.out]; omega⟩, Int.toNat_natCast]; exact ac
              have DU : Hid (D u = ((L - (j + 1) : Nat) : Int)) := by show _ = _; rw [du, dv.out]; omega
              have DR : Hid (xs.drop (j + 1) = wayL (nb ds (usL M f)) M D (L - (j + 1)) u) := by
                show _ = _
                rw [e2, gu, Int.toNat_natCast]; rfl
              have HS := Lib.hid (decide_eq_false (fun hm : u ∈ sl => by
                have := sb.out u hm
                rw [DU.out] at this; omega))
              have SB : Hid (∀ s ∈ sl ++ [u], ((L - (j + 1) : Nat) : Int) ≤ D s) := fun s hs => by
                rcases List.mem_append.1 hs with hs | hs
                · have := sb.out s hs; omega
                · obtain rfl : s = u := by simpa using hs
                  exact Int.le_of_eq DU.out.symm
              have RO := Lib.hid (rother_is an ad N cn M cd ns ds x v u wr (NI9.out.below bw.out) (by omega) (by omega) OT.out)
              have hLM : x < M := x1
              clear hx e1 e2 gu us1 ac du row rw' hjx
              go_wp2_with fail
              all_goals (try (exfalso; omega))
              refine RO.out.mono ?_; rintro e w11 ⟨rfl, b11⟩
              have B11 := Lib.hid (bel.out.trans (b11.mono hQw))
              have S11 := Lib.hid (AggsAt.below sn.out b11)
              have hQ11 : Q ≤ w11.heap.size := Nat.le_trans hQw b11.size
              clear b11
              go_wp2_with fail
              all_goals (try (exfalso; omega))
              refine (rhas_is sl _ (j + 1) Q u false w11 S11.out hsl.out (by omega) HS.out).mono ?_; rintro e w' ⟨rfl, rfl⟩
              have S12 : Hid (NumsAt (w11.alloc (.cells #[.int .i64 (u : Int)] 3)) Q u15 sl) := AggsAt.alloc S11.out _
              have B12 := Lib.hid (B11.out.trans ((below_box w11 (.cells #[.int .i64 (u : Int)] 3)).mono hQ11))
              have S13 : Hid ((w11.alloc (.cells #[.int .i64 (u : Int)] 3)).ownsRow Q 3 1 u15 (j + 1) (flat encN sl)) := by have := S12.out; unfold NumsAt AggsAt at this; rw [hsl.out] at this; exact this
              obtain ⟨i0, hi, hz0, hz1, hz2⟩ := info_parts infoInt
              go_wp2_with (at_builtin; go_must (refine wpList_append_own _ rfl (.tmp 140) (.tmp 142) 22 rfl Q 3 i0 _ 1 8 Tryd.underlying22 hi hz0 hz1 hz2 rfl (by decide) u15 (j + 1) (flat encN sl) rfl S13.out _ 1 1 (encN u) rfl rfl ?qc1 ?qc2 ?qc3 ?qc4 ?qc5 ?_))
              case qc1 => exact cell_new1 _ _ rfl _ u
              case qc2 => exact encN_one u
              case qc3 => unfold maxLen; omega
              case qc4 => omega
              case qc5 => simp; omega
              intro v' w13 hown' hgrow hnil'
              have NU := Lib.hid (show NumsAt w13 Q v' (sl ++ [u]) from AggsAt.push (by rw [hsl.out]; exact hown'))
              have B13 := Lib.hid (B12.out.grown hgrow (by simp; omega) (fun q hq => by have := (World.ownsRow.lt S12.out q hq).1; exact this))
              clear hown' hgrow hnil'
              go_wp2
              go_roundw
              case rel => exact ⟨j + 1, u, sl ++ [u], by omega, hu, rfl, by go_num, by show _ = _; rw [List.length_append, hsl.out]; rfl, B13, NU, DU, DR, SB⟩
              case measure => simp [intOf]; omega
            · obtain rfl : L = j := by omega
              have hvt : v = tn := HD.out.only v hvN (by rw [dv.out]; simp)
              subst hvt
              have BZ := Lib.hid (B9.out.trans (bw.out.mono B9.out.size))
              go_wp2_with fail
              refine (awake_is _ (H.out.below BZ.out)).mono ?_; rintro e w10 ⟨rfl, b10⟩
              have BY := Lib.hid (BZ.out.trans (b10.mono BZ.out.size))
              clear b10
              go_wp2
              go_ret
              exact ⟨rfl, BY.out⟩
  · have t1 : decide ((len : Int) ≤ 400) = false := decide_eq_false (by omega)
    go_enter Tryd.func4, Tryd.ntmps4
    go_wp2_with fail
    refine (few_any _ _ _ _ hl).mono ?_; rintro e w' ⟨rfl, rfl⟩
    go_wp2_with fail
    refine (awake_is _ H.out).mono ?_; rintro e w2 ⟨rfl, b2⟩
    go_wp2
    go_ret
    exact ⟨rfl, b2⟩
end Go.Proofs.YtleggojgcaefdaaDoor.net
