/- For every list of numbers ColourParts returns true: the nodes of a part have one colour and one number, the least node's; closed devices join their nodes. Conditions: the tables 'classes' and 'flags' hold what their texts lay (the card ties that). -/
import Derived.Test.YtoeojhabhnoojaaDoorCoS
import Derived.Test.YtoeojhabhnoojaaDoorNwX
namespace Go.Proofs.YtoeojhabhnoojaaDoor.col
open Go.RowKit Go.Maps lex aggs kit net deck msk

/-- which devices are closed -/
def clB (S : List Int) (i : Nat) : Bool := decide (at0 S i = 2)
theorem nb_edge {ns : List Nd} {ds : List Dv} {S : List Int} (hc : chk ns ds = 0) {i : Nat} (hi : i < ds.length) (he : edge ds S i = true) :
    dA ds i < ns.length ∧ dB ds i < ns.length ∧ nb ds (usL ds.length (clB S)) i (dA ds i) = (dB ds i : Int) ∧ nb ds (usL ds.length (clB S)) i (dB ds i) = (dA ds i : Int) := by
  obtain ⟨h2, hj⟩ := edge_iff.1 he
  obtain ⟨⟨a0, a1⟩, hb⟩ := itsB_parts (chk_its hc i hi)
  have hk := of_decide_eq_true hj
  unfold dK at hk
  have hb2 : 0 ≤ (ds.getD i default).b ∧ (ds.getD i default).b < ns.length ∧ (ds.getD i default).b ≠ (ds.getD i default).a := by omega
  have ea : (dA ds i : Int) = (ds.getD i default).a := by unfold dA; omega
  have eb : (dB ds i : Int) = (ds.getD i default).b := by unfold dB; omega
  have hu : (usL ds.length (clB S)).getD i false = true := by rw [usL_get hi]; exact decide_eq_true h2
  refine ⟨by omega, by omega, ?_, ?_⟩
  · unfold nb; rw [if_pos hu, ea, eb]; unfold acr; rw [if_pos hk, if_pos rfl]
  · unfold nb; rw [if_pos hu, ea, eb]; unfold acr; rw [if_pos hk, if_neg hb2.2.2, if_pos rfl]
theorem reach {ns : List Nd} {ds : List Dv} {S : List Int} {N : Nat} (hc : chk ns ds = 0) (hn : ns.length = N) {v : Nat} (hv : v < N) {xs : List Nat} {ok : Bool} {er : Int} (h : WayIs ns ds (usL ds.length (clB S)) (v : Int) (pt ds S v : Int) xs ok er) : er = 0 ∧ ok = true ∧ xs.length < N := by
  have hp := pt_le ds S v
  unfold WayIs at h
  rw [if_pos hc, if_pos (usL_len _ _), if_pos (by omega), Int.toNat_natCast, Int.toNat_natCast, hn] at h
  obtain ⟨e1, D, hD, h⟩ := h
  have hg := (pt_is ds S).const (fun u => if u < N ∧ 0 ≤ D u then 1 else 0) (fun i hi => by
    obtain ⟨p1, p2, p3, p4⟩ := nb_edge hc hi.1 hi.2
    rw [hn] at p1 p2
    have s1 := fun hq => hD.step _ p1 hq i hi.1 _ p2 p3
    have s2 := fun hq => hD.step _ p2 hq i hi.1 _ p1 p4
    by_cases hq : 0 ≤ D (dA ds i)
    · simp only [if_pos (And.intro p1 hq), if_pos (And.intro p2 (s1 hq).1)]
    · have : ¬ 0 ≤ D (dB ds i) := fun hq2 => hq (s2 hq2).1
      simp only [if_neg (fun k : dA ds i < N ∧ 0 ≤ D (dA ds i) => hq k.2), if_neg (fun k : dB ds i < N ∧ 0 ≤ D (dB ds i) => this k.2)]) v
  have hz := hD.zero
  simp only [if_pos (show pt ds S v < N ∧ 0 ≤ D (pt ds S v) by omega)] at hg
  have hr : 0 ≤ D v := by
    by_cases hq : v < N ∧ 0 ≤ D v
    · exact hq.2
    · rw [if_neg hq] at hg; omega
  have hl := hD.lt v hv
  rcases h with ⟨h1, _⟩ | ⟨n, h1, h2, h3⟩
  · omega
  · refine ⟨e1, h2, ?_⟩
    rw [h3, wayL_length]; omega
section
variable {W X Y : World} {g k j : Nat} {v0 v1 v2 : Value}
theorem tri_bel (h : X.cell? ⟨g, 0, none⟩ = some v0 ∧ X.cell? ⟨g, 1, none⟩ = some v1 ∧ X.cell? ⟨k, j, none⟩ = some v2 ∧ Below W.heap.size W X) (b : Below X.heap.size X Y) : Y.cell? ⟨g, 0, none⟩ = some v0 ∧ Y.cell? ⟨g, 1, none⟩ = some v1 ∧ Y.cell? ⟨k, j, none⟩ = some v2 ∧ Below W.heap.size W Y :=
  ⟨(b.cell (p := ⟨g, 0, none⟩) (World.block_lt_of_cell? X _ h.1)).trans h.1, (b.cell (p := ⟨g, 1, none⟩) (World.block_lt_of_cell? X _ h.2.1)).trans h.2.1, (b.cell (p := ⟨k, j, none⟩) (World.block_lt_of_cell? X _ h.2.2.1)).trans h.2.2.1, h.2.2.2.trans (b.mono h.2.2.2.size)⟩
theorem tri_drw (h : X.cell? ⟨g, 0, none⟩ = some v0 ∧ X.cell? ⟨g, 1, none⟩ = some v1 ∧ X.cell? ⟨k, j, none⟩ = some v2 ∧ Below W.heap.size W X) : X.drew.cell? ⟨g, 0, none⟩ = some v0 ∧ X.drew.cell? ⟨g, 1, none⟩ = some v1 ∧ X.drew.cell? ⟨k, j, none⟩ = some v2 ∧ Below W.heap.size W X.drew := ⟨h.1, h.2.1, h.2.2.1, below_drewN h.2.2.2 1⟩
end
/-- what closed leaves -/
def ClPost (w : World) (M : Nat) (S : List Int) (e : Ending) (w' : World) : Prop :=
  ∃ z, e = .returned (.slice (some ⟨z, 0, none⟩) M M) ∧ w.heap.size ≤ z ∧ Flags w' z M (clB S) ∧ Below w.heap.size w w'
theorem fl_congr {w : World} {b M : Nat} {f g : Nat → Bool} (h : Flags w b M f) (e : ∀ t, t < M → f t = g t) : Flags w b M g := by
  obtain ⟨A, T, h1, h2, h3⟩ := h
  exact ⟨A, T, h1, h2, fun t ht => by rw [← e t ht]; exact h3 t ht⟩
set_option maxRecDepth 100000 in
set_option maxHeartbeats 4000000 in
theorem closed_is (a : Option Addr) (M c : Nat) (S : List Int) (w : World) (h : LIn w a M c S) (h64 : M ≤ 64) :
    Calls Tryd.prog 32 #[.slice a M c] w (ClPost w M S) := by
  have hn := Lib.hid h.len
  have n2 := h.cap
  have n3 := h.max
  unfold maxLen at n3
  have hmk := make_flags M h64 w
  have F0 := Flags.new w M 4
  have bx := below_box w (.cells (madeCells #[.bool false] M) 4)
  obtain ⟨z, hz⟩ : ∃ z, w.heap.size = z := ⟨_, rfl⟩
  have HZ := Lib.hid hz
  obtain ⟨w1, hw1⟩ : ∃ w1, w.alloc (.cells (madeCells #[.bool false] M) 4) = w1 := ⟨_, rfl⟩
  have LO := Lib.hid (fun hp => LIn.off h (k := z) (by omega) hp)
  rw [hw1] at hmk F0 bx
  rw [hz] at hmk F0
  have F0 := Lib.hid F0
  have BX := Lib.hid bx
  have L1 := Lib.hid (h.below bx)
  clear h bx
  go_enter Tryd.func32, Tryd.ntmps32
  go_wp2_with fail
  clear hmk hw1 hz
  go_loopw [10] (fun i wr => ∃ k : Nat, k ≤ M ∧ i = .int .i64 k ∧ Hid (Flags wr z M (fun t => if t < k then clB S t else false)) ∧ Hid (w1.grownBy wr (some z))) (fun i _ => M - (intOf i).toNat)
  case atStart => exact ⟨0, Nat.zero_le _, rfl, fl_congr F0.out (fun t _ => by simp), gb_refl _ _⟩
  case round =>
    clear F0
    obtain ⟨k, hk, rfl, fl, gb⟩ := hrel
    by_cases hlt : k < M
    · obtain ⟨g, o, rfl, hg, hc⟩ := (L1.out.grown gb.out LO.out).rin.some (by rw [hn.out]; omega)
      have c0 := cells_i hc k (by rw [hn.out]; exact hlt)
      obtain ⟨x, hx⟩ : ∃ x, at0 S k = x := ⟨_, rfl⟩
      rw [hx] at c0
      obtain ⟨q1, q2⟩ := fl.out.get hlt
      obtain ⟨r, hr⟩ : ∃ r, (x == 2) = r := ⟨_, rfl⟩
      have hcl : clB S k = r := by unfold clB; rw [hx, ← hr]; rfl
      have NF := Lib.hid (fl_congr (fl.out.set k hlt r) (g := fun t => if t < k + 1 then clB S t else false) (fun t ht => by
        unfold upd
        by_cases e : t = k
        · subst e; simp [hcl]
        · rw [if_neg e]
          show (if t < k then clB S t else false) = _
          by_cases e2 : t < k
          · rw [if_pos e2, if_pos (by omega)]
          · rw [if_neg e2, if_neg (by omega)]))
      have NG : Hid (w1.grownBy (wr.setCell ⟨z, k, none⟩ (.bool r)) (some z)) := gb_tr gb.out (gb_set _ (gb_refl wr _))
      clear hc hg hcl fl gb hx
      go_wp2
      go_roundw
      case rel => exact ⟨k + 1, by omega, by go_num, NF, NG⟩
      case measure => simp [intOf]; omega
    · obtain rfl : k = M := by omega
      have FF := Lib.hid (fl_congr fl.out (g := clB S) (fun t ht => by rw [if_pos ht]))
      have BB := Lib.hid (BX.out.grown gb.out BX.out.size (fun j hj => by cases hj; have := HZ.out; omega))
      go_wp2
      go_ret
      exact ⟨z, rfl, by have := HZ.out; omega, FF.out, BB.out⟩
set_option maxRecDepth 100000 in
set_option maxHeartbeats 16000000 in
theorem parts_walk (la : Option Addr) (len cap : Nat) (zs : List Int) (W0 : World) (hr : IsRow .i64 W0 la len cap zs) (h : STabs W0) :
    Calls Tryd.prog 6 #[.slice la len cap] W0 fun e w' => e = .returned (.bool true) ∧ Below W0.heap.size W0 w' := by
  have hl : len ≤ 9223372036854775807 := by
    rcases hr with ⟨_, h, _⟩ | ⟨_, _, h1, h2, _⟩
    · omega
    · unfold maxLen at h2; omega
  have H0 := Lib.hid h
  have HR := Lib.hid hr
  clear h hr
  by_cases h4 : len ≤ 400
  · have t1 : decide ((len : Int) ≤ 400) = true := decide_eq_true (by omega)
    go_enter Tryd.func6, Tryd.ntmps6
    go_wp2_with fail
    refine (few_any _ _ _ _ hl).mono ?_; rintro e w' ⟨rfl, rfl⟩
    go_wp2_with fail
    refine (newg_any _ _ _ _).mono ?_; rintro e w1 ⟨rfl, g1⟩
    have hbw := g1.lt
    obtain ⟨bd, hbd⟩ : ∃ b, W0.heap.size = b := ⟨_, rfl⟩
    have HB := Lib.hid hbd
    rw [hbd] at hbw g1 ⊢
    clear hbd h4 t1 hl
    go_wp2_with fail
    refine (network_is (nodes := 7) (devices := 12) g1 HR.out (by decide) (by decide) (by decide) (by decide)).mono ?_
    rintro e W2 ⟨vn, vd, ns, ds, rfl, g2, rn, rdd, gn, gd, n1, n2, d1, d2⟩
    obtain ⟨an, cn, ad, cd, rfl, rfl, ni, z1, z2⟩ := rows_net rn rdd (by omega) gn gd hbw
    obtain ⟨N, hN⟩ : ∃ N, ns.length = N := ⟨_, rfl⟩
    obtain ⟨M, hM⟩ : ∃ M, ds.length = M := ⟨_, rfl⟩
    have CHK := Lib.hid (good_chk (by omega) (by omega) gn gd)
    rw [hN] at n1 n2 ni ⊢
    rw [hM] at d1 d2 ni ⊢
    have bx := below_box W2 (.cells #[.slice an N cn, .slice ad M cd] 26)
    have NT := Lib.hid (NtAt.new W2 (.slice an N cn) (.slice ad M cd) 26)
    have G3 := Lib.hid (g2.alloc (.cells #[.slice an N cn, .slice ad M cd] 26))
    have NF3 : Hid (NF (W2.alloc (.cells #[.slice an N cn, .slice ad M cd] 26)) bd an ad N cn M cd ns ds) := ⟨ni.below bx, z1, z2⟩
    have hb2 := g2.lt
    obtain ⟨g, hg⟩ : ∃ g, W2.heap.size = g := ⟨_, rfl⟩
    rw [hg] at NT hb2
    obtain ⟨W3, hW3⟩ : ∃ W3, W2.alloc (.cells #[.slice an N cn, .slice ad M cd] 26) = W3 := ⟨_, rfl⟩
    have hs3 : W3.heap.size = g + 1 := by rw [← hW3, World.size_alloc, hg]
    rw [hW3] at NT G3 NF3
    have hgb : g ≠ bd := by omega
    have k1 := NT.out.1
    have k2 := NT.out.2.1
    have gm0 := G3.out
    have gr0 := gb_refl W3 (some bd)
    have HDM := Lib.hid hM
    have HDN := Lib.hid hN
    have h64 : M ≤ 64 := by omega
    have h32 : N ≤ 32 := by omega
    clear rn rdd gn gd hN hM ni z1 z2 g1 g2 hbw bx
    go_wp2_with fail
    (try rw [hW3])
    clear hW3 hg
    refine (state_is gm0 HR.out an ad N cn M cd ns ds (NF3.out.keep2 gr0) h64).mono ?_
    rintro e w4 ⟨v, S, rfl, own, hS, hSa, gm4, gb4⟩
    obtain ⟨aS, cS, rfl, lS, lSo⟩ := own.lin
    rw [hS] at own lS ⊢
    have c0 := gb_cell k1 gb4 hgb
    have c1 := gb_cell k2 gb4 hgb
    have hbS := gb4.size
    rw [hs3] at hbS
    have KS : Hid (Kept w4 bd aS M cS S) := ⟨lS, fun p _ hp => by have := lSo p hp; omega⟩
    have GM := Lib.hid gm4
    have WG := Lib.hid gb4
    have HS := Lib.hid hS
    have s1 := lS.cap
    have s2 := lS.max
    have nin := NF3.out.keep gb4
    have n3 := nin.ncap
    have n4 := nin.nmax
    have n5 := nin.dcap
    have n6 := nin.dmax
    unfold maxLen at s2 n4 n6
    have CS := Lib.hid (pos_chk CHK.out (by rw [hS, HDM.out]) hSa)
    have C0 := Lib.hid k1
    have C1 := Lib.hid k2
    clear nin gm0 gr0 NT G3 own lS lSo gm4 gb4 hS hSa k1 k2
    go_wp2_with fail
    refine (Parts_is an ad aS N cn M cd M cS ns ds S 0 _ (H0.out.below GM.out.below) (NF3.out.keep WG.out) KS.out.1 CS.out).mono ?_
    rintro e w5 ⟨v, rfl, own, b5⟩
    rw [if_pos rfl] at own
    obtain ⟨aP, cP, rfl, kP⟩ := OwnI.kept own GM.out.lt
    rw [ptL_len] at kP ⊢
    have KP := Lib.hid kP
    have p1 := kP.1.cap
    have p2 := kP.1.max
    have GM := Lib.hid (GM.out.by_below b5)
    have WG := Lib.hid (gb_be WG.out b5)
    have KS := Lib.hid (KS.out.below b5)
    have c0 := gb_cell C0.out WG.out hgb
    have c1 := gb_cell C1.out WG.out hgb
    unfold maxLen at p2
    clear own kP b5
    go_wp2_with fail
    refine (Colours_is an ad aS N cn M cd M cS ns ds S 0 _ (H0.out.below GM.out.below) (NF3.out.keep WG.out) KS.out.1 CS.out).mono ?_
    rintro e w6 ⟨v, rfl, own, b6⟩
    rw [if_pos rfl] at own
    obtain ⟨aC, cC, rfl, kC⟩ := OwnI.kept own GM.out.lt
    rw [coL_len] at kC ⊢
    have KC := Lib.hid kC
    have q1 := kC.1.cap
    have q2 := kC.1.max
    have GM := Lib.hid (GM.out.by_below b6)
    have WG := Lib.hid (gb_be WG.out b6)
    have KS := Lib.hid (KS.out.below b6)
    have KP := Lib.hid (KP.out.below b6)
    have c0 := gb_cell C0.out WG.out hgb
    have c1 := gb_cell C1.out WG.out hgb
    unfold maxLen at q2
    clear own kC b6
    go_wp2_with fail
    clear c0 c1
    go_loopw [65] (fun i wr => ∃ v : Nat, v ≤ N ∧ i = .int .i64 v ∧ Hid (w6.grownBy wr (some bd)) ∧ Hid (Game W0 wr bd la len cap)) (fun i _ => N - (intOf i).toNat)
    case atStart => exact ⟨0, Nat.zero_le _, rfl, gb_refl _ _, GM.out⟩
    case round =>
      clear GM
      obtain ⟨v, hv, rfl, gb, gm⟩ := hrel
      by_cases hlt : v < N
      · have WGR := Lib.hid (gb_tr WG.out gb.out)
        have KPR := Lib.hid (KP.out.far gb.out)
        have KSR := Lib.hid (KS.out.far gb.out)
        obtain ⟨gp, op, hpe, -, hcp⟩ := KPR.out.1.rin.some (by rw [ptL_len]; omega)
        obtain ⟨gc, oc, hce, -, hcc⟩ := (KC.out.far gb.out).1.rin.some (by rw [coL_len]; omega)
        have hl := pt_le ds S v
        have hPN : pt ds S v < N := by omega
        have r0 := cells_i hcp v (by rw [ptL_len]; exact hlt)
        have r1 := cells_i hcp (pt ds S v) (by rw [ptL_len]; exact hPN)
        have r2 := cells_i hcc v (by rw [coL_len]; exact hlt)
        have r3 := cells_i hcc (pt ds S v) (by rw [coL_len]; exact hPN)
        rw [ptL_at hlt] at r0
        rw [ptL_at hPN, pt_idem] at r1
        rw [coL_at hlt] at r2
        rw [coL_at hPN, colr_pt] at r3
        have RCH := Lib.hid (fun xs ok er h => reach (S := S) (N := N) CHK.out HDN.out hlt (xs := xs) (ok := ok) (er := er) h)
        obtain ⟨P, hP⟩ : ∃ P, pt ds S v = P := ⟨_, rfl⟩
        obtain ⟨C, hC⟩ : ∃ C, colr ds S v = C := ⟨_, rfl⟩
        have HP := Lib.hid hP
        rw [hP] at r0 r1 r3 hl hPN RCH
        rw [hC] at r2 r3
        have T1 : decide ((P : Int) < 0) = false := decide_eq_false (by omega)
        have T2 : decide (v < P) = false := decide_eq_false (by omega)
        have T3 : ((P : Int) != (P : Int)) = false := bne_self_eq_false _
        have T4 : (C != C) = false := bne_self_eq_false _
        have NG := Lib.hid gb.out
        have NM := Lib.hid gm.out
        subst hpe
        subst hce
        clear hP hC hcp hcc gb gm
        go_wp2_with fail
        go_quiet (fail)
        rename_i nq
        clear r0 r1 r2 r3 T1 T2 T3 T4
        have NG := Lib.hid (gb_drewN nq NG.out)
        have NM := Lib.hid (NM.out.drewN nq)
        have WGR := Lib.hid (gb_drewN nq WGR.out)
        generalize wr.drewN nq = Z at NG NM WGR ⊢
        go_wp2_with fail
        refine (NM.out.next HR.out (N : Int) (by omega)).mono ?_
        rintro e x1 ⟨r2, rfl, r20, r21, gm1, gb1⟩
        obtain ⟨q, rfl⟩ : ∃ q : Nat, r2 = q := ⟨r2.toNat, by omega⟩
        have hq : q < N := by omega
        have NM := Lib.hid gm1
        have NG := Lib.hid (gb_tr NG.out gb1)
        have WGR := Lib.hid (gb_tr WGR.out gb1)
        have c0 := gb_cell C0.out WGR.out hgb
        have c1 := gb_cell C1.out WGR.out hgb
        obtain ⟨jb, hjb⟩ : ∃ b, jnB N ns ds S (v : Int) (q : Int) = b := ⟨_, rfl⟩
        have je : jnE N ns ds S (v : Int) (q : Int) = 0 := by
          unfold jnE
          rw [if_pos CS.out, if_pos ⟨decide_eq_true ⟨by omega, by omega⟩, decide_eq_true ⟨by omega, by omega⟩⟩]
        have HJ := Lib.hid (show (decide (P = pt ds S q)) = jb by rw [← hjb]; unfold jnB; rw [je, Int.toNat_natCast, Int.toNat_natCast, HP.out]; simp)
        have JN := Lib.hid (Joined_is an ad aS N cn M cd M cS ns ds S (v : Int) (q : Int) jb 0 _ (H0.out.below NM.out.below) (NF3.out.keep WGR.out) (KS.out.far NG.out).1 (by omega) (by omega) (by omega) (by omega) hjb je)
        clear hjb je gm1 gb1 r20 r21
        go_wp2_with fail
        refine JN.out.mono ?_
        rintro e x2 ⟨rfl, b2⟩
        have NM := Lib.hid (NM.out.by_below b2)
        have NG := Lib.hid (gb_be NG.out b2)
        have WGR := Lib.hid (gb_be WGR.out b2)
        obtain ⟨gp', op', hpe', -, hcp⟩ := (KP.out.far NG.out).1.rin.some (by rw [ptL_len]; omega)
        cases hpe'
        have r0 := cells_i hcp v (by rw [ptL_len]; exact hlt)
        have r1 := cells_i hcp q (by rw [ptL_len]; exact hq)
        rw [ptL_at hlt, HP.out] at r0
        rw [ptL_at hq] at r1
        obtain ⟨Q, hQ⟩ : ∃ Q, pt ds S q = Q := ⟨_, rfl⟩
        rw [hQ] at r1 HJ
        have T1 : ((P : Int) == (Q : Int)) = jb := by rw [← HJ.out]; exact b_ext (by rw [beq_iff_eq, decide_eq_true_iff]; omega)
        have T2 : (jb != jb) = false := bne_self_eq_false _
        clear c0 c1 b2 JN hcp hQ HJ
        go_wp2_with fail
        go_quiet (fail)
        clear r0 r1 T1 T2
        have NG := Lib.hid (gb_drewN nq NG.out)
        have NM := Lib.hid (NM.out.drewN nq)
        have WGR := Lib.hid (gb_drewN nq WGR.out)
        generalize x2.drewN nq = Y at NG NM WGR ⊢
        have c0 := gb_cell C0.out WGR.out hgb
        have c1 := gb_cell C1.out WGR.out hgb
        obtain ⟨gp', op', hpe', -, hcp⟩ := (KP.out.far NG.out).1.rin.some (by rw [ptL_len]; omega)
        cases hpe'
        have r0 := cells_i hcp v (by rw [ptL_len]; exact hlt)
        rw [ptL_at hlt, HP.out] at r0
        have bw0 : Below Y.heap.size Y Y := Below.refl _ _
        have NIY := Lib.hid (fun wr (b : Below Y.heap.size Y wr) => (NF3.out.keep WGR.out).below b)
        have KSY := Lib.hid (fun wr (b : Below Y.heap.size Y wr) => (KS.out.far NG.out).1.below b)
        clear hcp
        go_wp2_with fail
        go_region_held3 (fun w' => w'.cell? ⟨g, 0, none⟩ = some (.slice an N cn) ∧ w'.cell? ⟨g, 1, none⟩ = some (.slice ad M cd) ∧ w'.cell? ⟨gp, op + v, none⟩ = some (.int .i64 (P : Int)) ∧ Below Y.heap.size Y w')
          (first | exact tri_drw ⟨c0, c1, r0, bw0⟩ | exact ⟨c0, c1, r0, bw0⟩ | exact tri_drw (by assumption) | exact tri_bel (by assumption) (by assumption) | exact tri_drw (tri_bel (by assumption) (by assumption)) | go_keep)
          (first
            | (go_at_call 32; refine (closed_is aS M cS S _ (KSY.out _ (And.right (And.right (And.right (by assumption : _ ∧ _ ∧ _ ∧ Below Y.heap.size Y _))))) h64).mono ?_; rintro e w7 ⟨z, rfl, hz, fl, b7⟩; have fr := fl.rin)
            | (go_at_call 31; refine (rway_is an ad _ N cn M cd M M ns ds (usL M (clB S)) (v : Int) (P : Int) _ (NIY.out _ (And.right (And.right (And.right (by assumption : _ ∧ _ ∧ _ ∧ Below Y.heap.size Y _))))) (by assumption) (usL_len _ _) (by unfold maxLen; omega) (by omega) (by omega) (by omega) (by omega)).mono ?_; rintro e w8 ⟨vw, ws, ok, er, rfl, nu, b8, wi⟩))
        rename_i hH
        have hBw := hH.2.2.2
        obtain ⟨rfl, rfl, hwl⟩ := RCH.out ws ok er (by rw [HDM.out]; exact wi)
        obtain ⟨rb, aw, cw, rfl, -⟩ := nums_row nu
        obtain ⟨Lw, hLw⟩ : ∃ L, ws.length = L := ⟨_, rfl⟩
        rw [hLw] at hwl ⊢
        have NG := Lib.hid (gb_be NG.out hBw)
        have NM := Lib.hid (NM.out.by_below hBw)
        have T5 : decide (N ≤ Lw) = false := decide_eq_false (by omega)
        clear hH hBw nu wi hLw RCH b7 b8 fl fr c0 c1 r0 bw0 NIY KSY hz
        go_wp2
        go_roundw
        case rel => exact ⟨v + 1, by omega, by go_num, NG, NM⟩
        case measure => simp [intOf]; omega
      · have WGR := Lib.hid (gb_tr WG.out gb.out)
        have B0 := Lib.hid gm.out.below
        have HT := Lib.hid (fun x (b : Below wr.heap.size wr x) => H0.out.below (gm.out.below.trans (b.mono gm.out.below.size)))
        have NI := Lib.hid (fun x (b : Below wr.heap.size wr x) => (NF3.out.keep WGR.out).below b)
        have LS := Lib.hid (fun x (b : Below wr.heap.size wr x) => (KS.out.far gb.out).1.below b)
        have LP := Lib.hid (fun x (b : Below wr.heap.size wr x) => (KP.out.far gb.out).1.below b)
        have LC := Lib.hid (fun x (b : Below wr.heap.size wr x) => (KC.out.far gb.out).1.below b)
        have c0 := gb_cell C0.out WGR.out hgb
        have c1 := gb_cell C1.out WGR.out hgb
        have D0 := Lib.hid (fun x (b : Below wr.heap.size wr x) => (b.cell (p := ⟨g, 0, none⟩) (World.block_lt_of_cell? wr _ c0)).trans c0)
        have D1 := Lib.hid (fun x (b : Below wr.heap.size wr x) => (b.cell (p := ⟨g, 1, none⟩) (World.block_lt_of_cell? wr _ c1)).trans c1)
        clear gb gm KS KP KC WG
        go_wp2_with fail
        clear c0 c1
        go_loopw [166] (fun i x => ∃ k : Nat, k ≤ M ∧ i = .int .i64 k ∧ Hid (Below wr.heap.size wr x)) (fun i _ => M - (intOf i).toNat)
        case atStart => exact ⟨0, Nat.zero_le _, rfl, Below.refl _ _⟩
        case round =>
          obtain ⟨k, hk, rfl, bel⟩ := hrel
          by_cases hlt : k < M
          · have hkd : k < ds.length := by rw [HDM.out]; exact hlt
            have hks : k < S.length := by rw [HS.out]; exact hlt
            obtain ⟨gg, o, hbe, hg1, hcd⟩ := (NI.out _ bel.out).din.some (by omega)
            obtain ⟨g2, o2, hse, hg2, hcs⟩ := (LS.out _ bel.out).rin.some (by omega)
            obtain ⟨c0, c1, c2, c3, c4⟩ := cells_dv hcd k hkd
            have t0 := cells_i hcs k hks
            obtain ⟨e1, e2, e3⟩ := dev_at hkd
            have its := chk_its CHK.out k hkd
            have hki := (dvE_parts (chk_dv CHK.out k hkd)).2.2.2.1
            have e4 : ds.getD k default = ds[k] := by simp [List.getD_eq_getElem?_getD, hkd]
            rw [e4] at its hki
            rw [HDN.out] at its
            have ED := Lib.hid (fun h => (pt_is ds S).edge k ⟨hkd, h⟩)
            have LV := Lib.hid (fun h1 h2 => (live_iff (ds := ds) (S := S) (v := dA ds k)).2 ⟨k, hkd, h1, h2, rfl⟩)
            have EA := Lib.hid (fun h1 h2 => (earth_iff (ds := ds) (S := S) (v := dA ds k)).2 ⟨k, hkd, h1, h2, rfl⟩)
            obtain ⟨xd, hxd⟩ : ∃ x, ds[k] = x := ⟨_, rfl⟩
            obtain ⟨x, hx⟩ : ∃ x, at0 S k = x := ⟨_, rfl⟩
            rw [hxd] at c0 c1 c2 c3 c4 e1 e2 e3 its hki
            rw [hx] at t0 LV EA
            obtain ⟨nm, ki, da, db, co⟩ := xd
            dsimp only at c0 c1 c2 c3 c4 e1 e2 e3 hki
            obtain ⟨⟨a0, a1⟩, hb⟩ := itsB_parts its
            simp only at a0 a1 hb
            obtain ⟨p, hp⟩ : ∃ p : Nat, da = p := ⟨da.toNat, by omega⟩
            subst hp
            rw [Int.toNat_natCast] at e2
            have hpN : p < N := by omega
            have EQ := Lib.hid (edge_eq hx e1)
            rw [e2] at ED LV EA
            rw [e1] at LV EA
            rw [e3] at ED
            have bb := below_box wr (.cells #[.string nm, .int .i64 ki, .int .i64 (p : Int), .int .i64 db, .int .i64 co] 57)
            rw [← bb.cell (p := ⟨g2, o2 + k, none⟩) hg2] at t0
            have NB := Lib.hid (bel.out.trans (bb.mono bel.out.size))
            obtain ⟨gp, op, hpe, -, hcp⟩ := (LP.out _ NB.out).rin.some (by rw [ptL_len]; omega)
            obtain ⟨gc, oc, hce, -, hcc⟩ := (LC.out _ NB.out).rin.some (by rw [coL_len]; omega)
            have r0 := cells_i hcp p (by rw [ptL_len]; exact hpN)
            have r2 := cells_i hcc p (by rw [coL_len]; exact hpN)
            rw [ptL_at hpN] at r0
            rw [coL_at hpN] at r2
            have x1 := colr_in ds S p
            subst hbe
            subst hse
            clear hcd hcs hcc hxd hx e4 hg1 hg2 bb bel e1 e2 its
            by_cases h2 : x = 2
            · subst h2
              have T1 : ((2 : Int) != 2) = false := by decide
              by_cases hj : 1 ≤ ki ∧ ki ≤ 3
              · have J := Lib.hid (fun W => rjoins_is ki true (decide_eq_true hj) W)
                obtain ⟨q, hq⟩ : ∃ q : Nat, db = q := ⟨db.toNat, by omega⟩
                subst hq
                rw [Int.toNat_natCast] at ED
                have hqN : q < N := by omega
                have r1 := cells_i hcp q (by rw [ptL_len]; exact hqN)
                rw [ptL_at hqN, ← ED.out (by rw [EQ.out, decide_eq_true hj]; rfl)] at r1
                obtain ⟨P, hP⟩ : ∃ P, pt ds S p = P := ⟨_, rfl⟩
                rw [hP] at r0 r1
                have T2 : ((P : Int) != (P : Int)) = false := bne_self_eq_false _
                have T4 : (ki == 4) = false := beq_eq_false_iff_ne.2 (by omega)
                have T5 : (ki == 5) = false := beq_eq_false_iff_ne.2 (by omega)
                have T6 : (ki == 6) = false := beq_eq_false_iff_ne.2 (by omega)
                subst hpe
                subst hce
                clear hP hcp hj hki e3 hb
                go_wp2_with fail
                go_quiet ((go_at_call 30; exact Calls.quiet_of_same ((J.out _).mono fun _ _ h => ⟨h.1, h.2.symm⟩)))
                go_wp2
                go_roundw
                case rel => exact ⟨k + 1, by omega, by go_num, below_drewN NB.out _⟩
                case measure => simp [intOf]; omega
              · have J := Lib.hid (fun W => rjoins_is ki false (decide_eq_false hj) W)
                subst hpe
                subst hce
                rcases (show ki = 4 ∨ ki = 5 ∨ ki = 6 by omega) with rfl | rfl | rfl
                · have b := EA.out rfl rfl
                  obtain ⟨C, hC⟩ : ∃ C, colr ds S p = C := ⟨_, rfl⟩
                  rw [hC] at r2 x1 b
                  have T2 : (bits BinOp.and IntKind.i64 C 2 == 0) = false := by rcases four x1 with rfl | rfl | rfl | rfl <;> revert b <;> decide +kernel
                  clear hC b hcp hj hki e3 hb
                  go_wp2_with fail
                  go_quiet ((go_at_call 30; exact Calls.quiet_of_same ((J.out _).mono fun _ _ h => ⟨h.1, h.2.symm⟩)))
                  go_wp2
                  go_roundw
                  case rel => exact ⟨k + 1, by omega, by go_num, below_drewN NB.out _⟩
                  case measure => simp [intOf]; omega
                · have b := LV.out rfl (.inl rfl)
                  obtain ⟨C, hC⟩ : ∃ C, colr ds S p = C := ⟨_, rfl⟩
                  rw [hC] at r2 x1 b
                  have T2 : (bits BinOp.and IntKind.i64 C 1 == 0) = false := by rcases four x1 with rfl | rfl | rfl | rfl <;> revert b <;> decide +kernel
                  clear hC b hcp hj hki e3 hb
                  go_wp2_with fail
                  go_quiet ((go_at_call 30; exact Calls.quiet_of_same ((J.out _).mono fun _ _ h => ⟨h.1, h.2.symm⟩)))
                  go_wp2
                  go_roundw
                  case rel => exact ⟨k + 1, by omega, by go_num, below_drewN NB.out _⟩
                  case measure => simp [intOf]; omega
                · have b := LV.out rfl (.inr rfl)
                  obtain ⟨C, hC⟩ : ∃ C, colr ds S p = C := ⟨_, rfl⟩
                  rw [hC] at r2 x1 b
                  have T2 : (bits BinOp.and IntKind.i64 C 1 == 0) = false := by rcases four x1 with rfl | rfl | rfl | rfl <;> revert b <;> decide +kernel
                  clear hC b hcp hj hki e3 hb
                  go_wp2_with fail
                  go_quiet ((go_at_call 30; exact Calls.quiet_of_same ((J.out _).mono fun _ _ h => ⟨h.1, h.2.symm⟩)))
                  go_wp2
                  go_roundw
                  case rel => exact ⟨k + 1, by omega, by go_num, below_drewN NB.out _⟩
                  case measure => simp [intOf]; omega
            · have T1 : (x != 2) = true := bne_iff_ne.2 h2
              clear h2 hcp hb hki e3 r0 r2
              go_wp2
              go_roundw
              case rel => exact ⟨k + 1, by omega, by go_num, NB⟩
              case measure => simp [intOf]; omega
          · obtain rfl : k = M := by omega
            have m0 := D0.out _ bel.out
            have m1 := D1.out _ bel.out
            have RS := Lib.hid (rState_is an ad aS N cn k cd k cS ns ds S 0 _ (NI.out _ bel.out) (LS.out _ bel.out) CS.out)
            have E0 := Lib.hid bel.out
            clear bel
            go_wp2_with fail
            refine RS.out.mono ?_
            rintro e w9 ⟨rfl, b9⟩
            have E1 := Lib.hid (E0.out.trans (b9.mono E0.out.size))
            have AW := Lib.hid (awake_is w9 (HT.out _ E1.out))
            have BX := Lib.hid (B0.out.trans (E1.out.mono B0.out.size))
            clear b9 RS
            go_wp2_with fail
            refine AW.out.mono ?_; rintro e w10 ⟨rfl, b10⟩
            have BZ := Lib.hid (BX.out.trans (b10.mono BX.out.size))
            clear b10 AW
            go_wp2
            go_ret
            exact ⟨rfl, BZ.out⟩
  · have t1 : decide ((len : Int) ≤ 400) = false := decide_eq_false (by omega)
    go_enter Tryd.func6, Tryd.ntmps6
    go_wp2_with fail
    refine (few_any _ _ _ _ hl).mono ?_; rintro e w' ⟨rfl, rfl⟩
    go_wp2_with fail
    refine (awake_is _ H0.out).mono ?_; rintro e w4 ⟨rfl, b4⟩
    have BZ := Lib.hid b4
    clear b4
    go_wp2
    go_ret
    exact ⟨rfl, BZ.out⟩
end Go.Proofs.YtoeojhabhnoojaaDoor.col
