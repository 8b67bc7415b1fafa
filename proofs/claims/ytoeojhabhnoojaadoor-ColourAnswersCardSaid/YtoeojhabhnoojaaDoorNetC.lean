/- The walks of layer 3: Check. Condition: the table 'classes' holds what its text lays. -/
import Derived.Test.YtoeojhabhnoojaaDoorNetB
namespace Go.Proofs.YtoeojhabhnoojaaDoor.net
open Go.RowKit lex aggs kit

theorem DvAt.belowN {w w' : World} {n g B : Nat} {d : Dv} (h : DvAt w g d) (hb : Below B (w.drewN n) w') (hB : g < B) : DvAt w' g d := DvAt.below (w := w.drewN n) h hb hB
theorem bne_t {F : Int} {k : Int} (h : F ≠ k) : (F != k) = true := by rw [bne_iff_ne]; exact h
theorem nms_take (ns : List Nd) (i : Nat) (hi : i < ns.length) (x : Nd) (hx : ns[i] = x) : ndsE ns i = ndE (nmsN (ns.take i)) x := by
  unfold ndsE; rw [List.getD_eq_getElem?_getD, List.getElem?_eq_getElem hi, hx]; rfl
theorem dms_take (ns : List Nd) (ds : List Dv) (i : Nat) (hi : i < ds.length) (x : Dv) (hx : ds[i] = x) : dvsE ns ds i = dvE (nmsN ns) (nmsD (ds.take i)) ns.length x := by
  unfold dvsE; rw [List.getD_eq_getElem?_getD, List.getElem?_eq_getElem hi, hx]; rfl
set_option maxRecDepth 100000 in
set_option maxHeartbeats 2000000 in
theorem checkNode_is (a : Option Addr) (N c i : Nat) (y : Value) (ns : List Nd) (r : Int) (w : World) (H : HasClasses w) (hn : ns.length = N) (h : RIn encNd 3 w a ns) (hs : ∀ x ∈ ns, x.nm.size ≤ maxLen) (hl : N ≤ 32) (hi : i < N) (k1 : N ≤ c) (k2 : c ≤ maxLen) (hr : ndsE ns i = r) :
    Calls Tryd.prog 71 #[.agg #[.slice a N c, y], .int .i64 i] w fun e w' => e = .returned (.int .i64 r) ∧ Below w.heap.size w w' := by
  unfold maxLen at k2
  obtain ⟨g, o, rfl, hg, hc⟩ := h.some (by omega)
  have hix : i < ns.length := by omega
  obtain ⟨c0, c1, c2⟩ := cells_nd hc i hix
  have hsx := hs ns[i] (List.getElem_mem hix)
  obtain ⟨x, hx⟩ : ∃ x, ns[i] = x := ⟨_, rfl⟩
  have hr' := (nms_take ns i hix x hx).symm.trans hr
  rw [hx] at c0 c1 c2 hsx
  clear hx hr
  obtain ⟨nm, cu, co⟩ := x
  dsimp only at c0 c1 c2 hsx
  have bx := below_box w (.cells #[.slice (some ⟨g, o, none⟩) N c, y] 26)
  rw [← bx.cell (p := ⟨g, o + i * 3, none⟩) hg] at c0
  rw [← bx.cell (p := ⟨g, o + i * 3 + 1, none⟩) hg] at c1
  rw [← bx.cell (p := ⟨g, o + i * 3 + 2, none⟩) hg] at c2
  have HB := Lib.hid (bx.alloc (by simp) (.cells #[.string nm, .int .i64 cu, .int .i64 co] 67))
  clear bx
  have HW := Lib.hid (H.below HB.out)
  have NM := Lib.hid (fun b hb => name_at nm b _ HW.out hsx hb)
  obtain ⟨F, hF⟩ : ∃ F, fnd (nmsN (ns.take i)) nm = F := ⟨_, rfl⟩
  have NN := Lib.hid (fun n => nodeNamed_is (some ⟨g, o, none⟩) i c nm (ns.take i) F ((World.alloc (World.alloc w (.cells #[.slice (some ⟨g, o, none⟩) N c, y] 26)) (.cells #[.string nm, .int .i64 cu, .int .i64 co] 67)).drewN n) (by simp; omega) ((h.below (below_drewN HB.out n)).take i) (by unfold maxLen; omega) hF)
  have CO := Lib.hid (fun b hb w => isCompany_is co b hb w)
  unfold ndE at hr'
  dsimp only at hr'
  rw [hF] at hr'
  have HR := Lib.hid hr'
  clear hr' H hn h hs hc hix hsx hF HW
  by_cases hb : nameB nm.data.toList = true
  · by_cases hF0 : F = -1
    · subst hF0
      by_cases h1 : 0 ≤ cu
      · by_cases h2 : cu ≤ 1048576
        · by_cases h3 : 0 ≤ co ∧ co ≤ 7
          · have e : r = 0 := by rw [← HR.out, if_pos hb, if_pos rfl, if_pos ⟨h1, h2, h3⟩]
            have hcb := Lib.hid (decide_eq_true h3)
            clear h3
            subst e
            have HBb := Lib.hid hb
            clear hb
            go_enter Tryd.func71, Tryd.ntmps71
            go_wp2_with fail
            refine (NM.out _ HBb.out).mono ?_; rintro e w' ⟨rfl, rfl⟩
            go_wp2_with fail
            go_quiet (exact Calls.quiet_of_same ((NN.out _).mono fun _ _ h => ⟨h.1, h.2.symm⟩))
            go_wp2_with fail
            all_goals (try (exfalso; omega))
            refine (CO.out _ hcb.out _).mono ?_; rintro e w' ⟨rfl, rfl⟩
            go_wp2
            all_goals (first | (exfalso; omega) | (go_ret; exact ⟨rfl, below_drewN HB.out _⟩))
          · have e : r = 5 := by rw [← HR.out, if_pos hb, if_pos rfl, if_neg (fun h => h3 h.2.2)]
            have hcb := Lib.hid (decide_eq_false h3)
            clear h3
            subst e
            have HBb := Lib.hid hb
            clear hb
            go_enter Tryd.func71, Tryd.ntmps71
            go_wp2_with fail
            refine (NM.out _ HBb.out).mono ?_; rintro e w' ⟨rfl, rfl⟩
            go_wp2_with fail
            go_quiet (exact Calls.quiet_of_same ((NN.out _).mono fun _ _ h => ⟨h.1, h.2.symm⟩))
            go_wp2_with fail
            all_goals (try (exfalso; omega))
            refine (CO.out _ hcb.out _).mono ?_; rintro e w' ⟨rfl, rfl⟩
            go_wp2
            all_goals (first | (exfalso; omega) | (go_ret; exact ⟨rfl, below_drewN HB.out _⟩))
        · have e : r = 5 := by rw [← HR.out, if_pos hb, if_pos rfl, if_neg (fun h => h2 h.2.1)]
          subst e
          have HBb := Lib.hid hb
          clear hb
          go_enter Tryd.func71, Tryd.ntmps71
          go_wp2_with fail
          refine (NM.out _ HBb.out).mono ?_; rintro e w' ⟨rfl, rfl⟩
          go_wp2_with fail
          go_quiet (exact Calls.quiet_of_same ((NN.out _).mono fun _ _ h => ⟨h.1, h.2.symm⟩))
          go_wp2
          all_goals (first | (exfalso; omega) | (go_ret; exact ⟨rfl, below_drewN HB.out _⟩))
      · have e : r = 5 := by rw [← HR.out, if_pos hb, if_pos rfl, if_neg (fun h => h1 h.1)]
        subst e
        have HBb := Lib.hid hb
        clear hb
        go_enter Tryd.func71, Tryd.ntmps71
        go_wp2_with fail
        refine (NM.out _ HBb.out).mono ?_; rintro e w' ⟨rfl, rfl⟩
        go_wp2_with fail
        go_quiet (exact Calls.quiet_of_same ((NN.out _).mono fun _ _ h => ⟨h.1, h.2.symm⟩))
        go_wp2
        all_goals (first | (exfalso; omega) | (go_ret; exact ⟨rfl, below_drewN HB.out _⟩))
    · have e : r = 4 := by rw [← HR.out, if_pos hb, if_neg hF0]
      have T := bne_t hF0
      clear hF0
      subst e
      have HBb := Lib.hid hb
      clear hb
      go_enter Tryd.func71, Tryd.ntmps71
      go_wp2_with fail
      refine (NM.out _ HBb.out).mono ?_; rintro e w' ⟨rfl, rfl⟩
      go_wp2_with fail
      go_quiet (exact Calls.quiet_of_same ((NN.out _).mono fun _ _ h => ⟨h.1, h.2.symm⟩))
      go_wp2
      all_goals (first | (exfalso; omega) | (go_ret; exact ⟨rfl, below_drewN HB.out _⟩))
  · have e : r = 3 := by rw [← HR.out, if_neg hb]
    have hb0 := Lib.hid (Bool.eq_false_iff.2 hb)
    subst e
    clear hb
    go_enter Tryd.func71, Tryd.ntmps71
    go_wp2_with fail
    refine (NM.out _ hb0.out).mono ?_; rintro e w' ⟨rfl, rfl⟩
    go_wp2
    go_ret
    exact ⟨rfl, HB.out⟩
set_option maxRecDepth 100000 in
set_option maxHeartbeats 2000000 in
theorem checkDevice_is (a b : Option Addr) (N c M d i : Nat) (ns : List Nd) (ds : List Dv) (r : Int) (w : World) (H : HasClasses w) (hn : ns.length = N) (h : RIn encNd 3 w a ns) (hm : ds.length = M) (h' : RIn encDv 5 w b ds) (hs : ∀ x ∈ ds, Fits x) (hl : N ≤ 32) (hl' : M ≤ 64) (hi : i < M) (k1 : M ≤ d) (_k2 : d ≤ maxLen) (hr : dvsE ns ds i = r) :
    Calls Tryd.prog 72 #[.agg #[.slice a N c, .slice b M d], .int .i64 i] w fun e w' => e = .returned (.int .i64 r) ∧ Below w.heap.size w w' := by
  unfold maxLen at _k2
  obtain ⟨g, o, rfl, hg, hc⟩ := h'.some (by omega)
  have hix : i < ds.length := by omega
  obtain ⟨c0, c1, c2, c3, c4⟩ := cells_dv hc i hix
  have hsx := hs ds[i] (List.getElem_mem hix)
  obtain ⟨x, hx⟩ : ∃ x, ds[i] = x := ⟨_, rfl⟩
  have hr' := (dms_take ns ds i hix x hx).symm.trans hr
  rw [hx] at c0 c1 c2 c3 c4 hsx
  clear hx hr
  obtain ⟨nm, ki, da, db, co⟩ := x
  dsimp only at c0 c1 c2 c3 c4
  have bx := below_box w (.cells #[.slice a N c, .slice (some ⟨g, o, none⟩) M d] 26)
  rw [← bx.cell (p := ⟨g, o + i * 5, none⟩) hg] at c0
  rw [← bx.cell (p := ⟨g, o + i * 5 + 1, none⟩) hg] at c1
  rw [← bx.cell (p := ⟨g, o + i * 5 + 2, none⟩) hg] at c2
  rw [← bx.cell (p := ⟨g, o + i * 5 + 3, none⟩) hg] at c3
  rw [← bx.cell (p := ⟨g, o + i * 5 + 4, none⟩) hg] at c4
  have HB := Lib.hid (bx.alloc (by simp) (.cells #[.string nm, .int .i64 ki, .int .i64 da, .int .i64 db, .int .i64 co] 57))
  obtain ⟨w1, hw1⟩ : ∃ w1, World.alloc (World.alloc w (.cells #[.slice a N c, .slice (some ⟨g, o, none⟩) M d] 26)) (.cells #[.string nm, .int .i64 ki, .int .i64 da, .int .i64 db, .int .i64 co] 57) = w1 := ⟨_, rfl⟩
  have da1 : DvAt w1 (w.heap.size + 1) ⟨nm, ki, da, db, co⟩ := by
    rw [← hw1]
    have := DvAt.new (World.alloc w (.cells #[.slice a N c, .slice (some ⟨g, o, none⟩) M d] 26)) ⟨nm, ki, da, db, co⟩ 57
    simpa using this
  have DA := Lib.hid da1
  have DS := Lib.hid da1.2.2.2.2.2
  clear da1
  rw [hw1] at HB
  clear bx
  have HW := Lib.hid (H.below HB.out)
  have NM := Lib.hid (fun b hb => name_at nm b _ HW.out hsx.2.2.2.2 hb)
  obtain ⟨F, hF⟩ : ∃ F, fnd (nmsN ns) nm = F := ⟨_, rfl⟩
  obtain ⟨E, hE⟩ : ∃ E, fnd (nmsD (ds.take i)) nm = E := ⟨_, rfl⟩
  have NN := Lib.hid (fun n => nodeNamed_is a N c nm ns F (w1.drewN n) hn (h.below (below_drewN HB.out n)) (by unfold maxLen; omega) hF)
  have DD := Lib.hid (fun n => deviceNamed_is (some ⟨g, o, none⟩) i d nm (ds.take i) E (w1.drewN n) (by simp; omega) ((h'.below (below_drewN HB.out n)).take i) (by unfold maxLen; omega) hE)
  have CO := Lib.hid (fun b hb w => isCompany_is co b hb w)
  have KI := Lib.hid (fun b hb w => isKind_is ki b hb w)
  have IT := Lib.hid (fun b hb n => hasItsNodes_is a N c (.slice (some ⟨g, o, none⟩) M d) ⟨nm, ki, da, db, co⟩ b (w1.drewN n) hb (by unfold maxLen; omega) hsx)
  unfold dvE at hr'
  dsimp only at hr'
  rw [hF, hE, hn] at hr'
  have HR := Lib.hid hr'
  rw [← hw1] at NM NN DD IT HB DA DS
  clear hr' H hn h hs hc hix hsx hF hE HW h' hm hw1
  by_cases hb : nameB nm.data.toList = true
  · by_cases hF0 : F = -1
    · subst hF0
      by_cases hE0 : E = -1
      · subst hE0
        by_cases h1 : 1 ≤ ki ∧ ki ≤ 6
        · by_cases h2 : itsB N ⟨nm, ki, da, db, co⟩ = true
          · by_cases h3 : 0 ≤ co ∧ co ≤ 7
            · have e : r = 0 := by rw [← HR.out, if_pos hb, if_pos ⟨rfl, rfl⟩, if_pos h1, if_pos h2, if_pos h3]
              have hcb := Lib.hid (decide_eq_true h3)
              have hkb := Lib.hid (decide_eq_true h1)
              have hib := Lib.hid h2
              clear h1 h2 h3
              subst e
              have HBb := Lib.hid hb
              clear hb
              go_enter Tryd.func72, Tryd.ntmps72
              go_wp2_with fail
              refine (NM.out _ HBb.out).mono ?_; rintro e w' ⟨rfl, rfl⟩
              go_wp2_with fail
              go_quiet (first | exact Calls.quiet_of_same ((NN.out _).mono fun _ _ h => ⟨h.1, h.2.symm⟩) | exact Calls.quiet_of_same ((DD.out _).mono fun _ _ h => ⟨h.1, h.2.symm⟩))
              go_wp2_with fail
              refine (KI.out _ hkb.out _).mono ?_; rintro e w' ⟨rfl, rfl⟩
              go_wp2_with fail
              refine (IT.out _ hib.out _).mono ?_; rintro e w2 ⟨rfl, b2⟩
              have B2 := Lib.hid b2
              obtain ⟨-, -, -, -, k4, -⟩ := DA.out.belowN b2 DS.out
              clear b2
              go_wp2_with fail
              refine (CO.out _ hcb.out _).mono ?_; rintro e w' ⟨rfl, rfl⟩
              go_wp2
              go_ret
              exact ⟨rfl, (below_drewN HB.out _).trans (B2.out.mono HB.out.size)⟩
            · have e : r = 5 := by rw [← HR.out, if_pos hb, if_pos ⟨rfl, rfl⟩, if_pos h1, if_pos h2, if_neg h3]
              have hcb := Lib.hid (decide_eq_false h3)
              have hkb := Lib.hid (decide_eq_true h1)
              have hib := Lib.hid h2
              clear h1 h2 h3
              subst e
              have HBb := Lib.hid hb
              clear hb
              go_enter Tryd.func72, Tryd.ntmps72
              go_wp2_with fail
              refine (NM.out _ HBb.out).mono ?_; rintro e w' ⟨rfl, rfl⟩
              go_wp2_with fail
              go_quiet (first | exact Calls.quiet_of_same ((NN.out _).mono fun _ _ h => ⟨h.1, h.2.symm⟩) | exact Calls.quiet_of_same ((DD.out _).mono fun _ _ h => ⟨h.1, h.2.symm⟩))
              go_wp2_with fail
              refine (KI.out _ hkb.out _).mono ?_; rintro e w' ⟨rfl, rfl⟩
              go_wp2_with fail
              refine (IT.out _ hib.out _).mono ?_; rintro e w2 ⟨rfl, b2⟩
              have B2 := Lib.hid b2
              obtain ⟨-, -, -, -, k4, -⟩ := DA.out.belowN b2 DS.out
              clear b2
              go_wp2_with fail
              refine (CO.out _ hcb.out _).mono ?_; rintro e w' ⟨rfl, rfl⟩
              go_wp2
              go_ret
              exact ⟨rfl, (below_drewN HB.out _).trans (B2.out.mono HB.out.size)⟩
          · have e : r = 7 := by rw [← HR.out, if_pos hb, if_pos ⟨rfl, rfl⟩, if_pos h1, if_neg h2]
            have hkb := Lib.hid (decide_eq_true h1)
            have hib := Lib.hid (Bool.eq_false_iff.2 h2)
            clear h1 h2
            subst e
            have HBb := Lib.hid hb
            clear hb
            go_enter Tryd.func72, Tryd.ntmps72
            go_wp2_with fail
            refine (NM.out _ HBb.out).mono ?_; rintro e w' ⟨rfl, rfl⟩
            go_wp2_with fail
            go_quiet (first | exact Calls.quiet_of_same ((NN.out _).mono fun _ _ h => ⟨h.1, h.2.symm⟩) | exact Calls.quiet_of_same ((DD.out _).mono fun _ _ h => ⟨h.1, h.2.symm⟩))
            go_wp2_with fail
            refine (KI.out _ hkb.out _).mono ?_; rintro e w' ⟨rfl, rfl⟩
            go_wp2_with fail
            refine (IT.out _ hib.out _).mono ?_; rintro e w2 ⟨rfl, b2⟩
            have B2 := Lib.hid b2
            clear b2
            go_wp2
            go_ret
            exact ⟨rfl, (below_drewN HB.out _).trans (B2.out.mono HB.out.size)⟩
        · have e : r = 6 := by rw [← HR.out, if_pos hb, if_pos ⟨rfl, rfl⟩, if_neg h1]
          have hkb := Lib.hid (decide_eq_false h1)
          clear h1
          subst e
          have HBb := Lib.hid hb
          clear hb
          go_enter Tryd.func72, Tryd.ntmps72
          go_wp2_with fail
          refine (NM.out _ HBb.out).mono ?_; rintro e w' ⟨rfl, rfl⟩
          go_wp2_with fail
          go_quiet (first | exact Calls.quiet_of_same ((NN.out _).mono fun _ _ h => ⟨h.1, h.2.symm⟩) | exact Calls.quiet_of_same ((DD.out _).mono fun _ _ h => ⟨h.1, h.2.symm⟩))
          go_wp2_with fail
          refine (KI.out _ hkb.out _).mono ?_; rintro e w' ⟨rfl, rfl⟩
          go_wp2
          go_ret
          exact ⟨rfl, below_drewN HB.out _⟩
      · have e : r = 4 := by rw [← HR.out, if_pos hb, if_neg (fun h => hE0 h.2)]
        have T := bne_t hE0
        clear hE0
        subst e
        have HBb := Lib.hid hb
        clear hb
        go_enter Tryd.func72, Tryd.ntmps72
        go_wp2_with fail
        refine (NM.out _ HBb.out).mono ?_; rintro e w' ⟨rfl, rfl⟩
        go_wp2_with fail
        go_quiet (first | exact Calls.quiet_of_same ((NN.out _).mono fun _ _ h => ⟨h.1, h.2.symm⟩) | exact Calls.quiet_of_same ((DD.out _).mono fun _ _ h => ⟨h.1, h.2.symm⟩))
        go_wp2
        all_goals (first | (exfalso; omega) | (go_ret; exact ⟨rfl, below_drewN HB.out _⟩))
    · have e : r = 4 := by rw [← HR.out, if_pos hb, if_neg (fun h => hF0 h.1)]
      have T := bne_t hF0
      clear hF0
      subst e
      have HBb := Lib.hid hb
      clear hb
      go_enter Tryd.func72, Tryd.ntmps72
      go_wp2_with fail
      refine (NM.out _ HBb.out).mono ?_; rintro e w' ⟨rfl, rfl⟩
      go_wp2_with fail
      go_quiet (first | exact Calls.quiet_of_same ((NN.out _).mono fun _ _ h => ⟨h.1, h.2.symm⟩) | exact Calls.quiet_of_same ((DD.out _).mono fun _ _ h => ⟨h.1, h.2.symm⟩))
      go_wp2
      all_goals (first | (exfalso; omega) | (go_ret; exact ⟨rfl, below_drewN HB.out _⟩))
  · have e : r = 3 := by rw [← HR.out, if_neg hb]
    have hb0 := Lib.hid (Bool.eq_false_iff.2 hb)
    subst e
    clear hb
    go_enter Tryd.func72, Tryd.ntmps72
    go_wp2_with fail
    refine (NM.out _ hb0.out).mono ?_; rintro e w' ⟨rfl, rfl⟩
    go_wp2
    go_ret
    exact ⟨rfl, HB.out⟩
end Go.Proofs.YtoeojhabhnoojaaDoor.net
