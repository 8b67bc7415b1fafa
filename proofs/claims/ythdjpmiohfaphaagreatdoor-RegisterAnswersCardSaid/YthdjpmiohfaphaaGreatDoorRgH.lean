/- The walk of the reference of layer 5: Remove. It computes what the plain facts say. No condition. -/
import Derived.Test.YthdjpmiohfaphaaGreatDoorRgP
import Derived.Laws.AppendOwn
import Derived.OwnWalk
namespace Go.Proofs.YthdjpmiohfaphaaGreatDoor.reg
open Go.RowKit lex aggs kit net deck

set_option maxRecDepth 100000 in
set_option maxHeartbeats 4000000 in
theorem rremove_is (a : Option Addr) (N c : Nat) (ps : List Pn) (s : ByteArray) (w : World) (h : RegIn w a N c ps) :
    Calls Tryz.prog 13 #[.agg #[.slice a N c], .string s] w (RegPost (remP ps s).1 (remP ps s).2 w) := by
  obtain ⟨i0, hi, hz0, hz1, hz2⟩ := info_parts infoPn
  have bx := below_box w (.cells #[.slice a N c] 25)
  have bz := below_box (w.alloc (.cells #[.slice a N c] 25)) (.cells #[.slice none 0 0] 25)
  have BX := Lib.hid (bx.trans (bz.mono bx.size))
  have NT := Lib.hid ((OneAt.new w (.slice a N c) 25).below bz (by simp))
  have hres := heap_alloc_new (w.alloc (.cells #[.slice a N c] 25)) (.cells #[.slice none 0 0] 25)
  rw [World.size_alloc] at hres
  have HN := Lib.hid (fun wr (bel : Below w.heap.size w wr) => h.below bel)
  obtain ⟨x, hx⟩ : ∃ x, w.heap.size = x := ⟨_, rfl⟩
  obtain ⟨W1, hW1⟩ : ∃ W, (w.alloc (.cells #[.slice a N c] 25)).alloc (.cells #[.slice none 0 0] 25) = W := ⟨_, rfl⟩
  have hs1 : W1.heap.size = x + 2 := by rw [← hW1, ← hx]; simp
  rw [hW1] at BX NT hres
  rw [hx] at BX NT hres HN
  have n1 := h.ncap
  have n2 := h.nmax
  unfold maxLen at n2
  have hn := Lib.hid h.len
  have hft := Lib.hid h.fit
  obtain ⟨E, hE⟩ : ∃ E, chkP ps = E := ⟨_, rfl⟩
  have CK := Lib.hid (rcheck_is a N c ps E W1 (HN.out _ BX.out) hE)
  have RES : Hid (∀ W, Below W1.heap.size W1 W → W.heap[x + 1]? = some (.cells #[.slice none 0 0] 25 (0, 0))) := fun W b => by rw [b.block (x + 1) (by omega)]; exact hres
  clear bx bz hres
  by_cases e0 : E = 0
  · subst e0
    obtain ⟨F, hF⟩ : ∃ F, fnd (nmsP ps) s = F := ⟨_, rfl⟩
    have hFP : fndP ps s = F := by unfold fndP; rw [if_pos hE, hF]
    have FD := Lib.hid (fun W (b : Below x w W) => rfind_is a N c ps s F W (HN.out _ b) hFP)
    have hlt := fndP_lt ps s
    rw [hFP, hn.out] at hlt
    by_cases f0 : F = -1
    · subst f0
      have hR : remP ps s = ([], 15) := by unfold remP; rw [if_neg (by simp [hE]), if_pos hF]
      rw [hR]
      clear hR hF hFP hlt hE h
      obtain ⟨k1, -⟩ := NT.out
      go_enter Tryz.func13, Tryz.ntmps13
      go_wp2_with fail
      refine CK.out.mono ?_; rintro e w2 ⟨rfl, b2⟩
      have B2 := Lib.hid b2
      have BL2 := Lib.hid (BX.out.trans (b2.mono (by have := BX.out.size; omega)))
      obtain ⟨k1, -⟩ := NT.out.below b2 NT.out.2
      clear b2
      go_wp2_with fail
      refine (FD.out _ BL2.out).mono ?_; rintro e w3 ⟨rfl, b3⟩
      have B3 := Lib.hid (B2.out.trans (b3.mono B2.out.size))
      have BL3 := Lib.hid (BL2.out.trans (b3.mono (by have := BL2.out.size; omega)))
      have hr3 := RES.out _ B3.out
      obtain ⟨c0, z0⟩ := cell_at hr3 0
      have e1 := set_at (i := 0) (.slice none 0 0) hr3
      have p0 := (cell_at e1 0).1
      have BE := Lib.hid (BL3.out.setCell (p := ⟨x + 1, 0, none⟩) (by show x ≤ x + 1; omega) (.slice none 0 0))
      clear hr3 e1 b3 hW1
      go_wp2
      exact bodyPost_ret (v := .tuple #[.agg #[.slice none 0 0], .int .i64 15]) (by simp [results, Tryz.results13, go_sem, p0]) rfl ⟨_, _, _, rfl, reg_nil _, by rw [hx]; exact BE.out⟩
    · obtain ⟨j, rfl⟩ : ∃ j : Nat, F = j := ⟨F.toNat, by omega⟩
      have hjx : j < ps.length := by rw [hn.out]; omega
      have hR : remP ps s = (ps.eraseIdx j, 0) := by unfold remP; rw [if_neg (by simp [hE]), if_neg (by rw [hF]; exact f0), hF, Int.toNat_natCast]
      rw [hR]
      have T1 : decide ((j : Int) < 0) = false := decide_eq_false (by omega)
      have hjN : j < N := by omega
      obtain ⟨g, o, rfl, -, -⟩ := h.rin.some (by omega)
      have CL : Hid (∀ W, Below x w W → CellsAt encPn 5 W g o ps) := fun W b => by
        rcases (HN.out W b).rin with ⟨e, _⟩ | ⟨g', o', e, _, hc⟩
        · cases e
        · injection e with e; injection e with e1 e2; subst e1 e2; exact hc
      have hw1 : IntKind.i64.wrap ((j : Int) + 1) = ((j + 1 : Nat) : Int) := by rw [IntKind.wrap_i64]; omega
      have h64 : N ≤ 64 := by have := (chkP_zero.1 hE).len; rw [hn.out] at this; exact this
      clear hR hF hFP hE h f0 hlt
      obtain ⟨k1, -⟩ := NT.out
      go_enter Tryz.func13, Tryz.ntmps13
      go_wp2_with fail
      refine CK.out.mono ?_; rintro e w2 ⟨rfl, b2⟩
      have B2 := Lib.hid b2
      have BL2 := Lib.hid (BX.out.trans (b2.mono (by have := BX.out.size; omega)))
      obtain ⟨k1, -⟩ := NT.out.below b2 NT.out.2
      clear b2
      go_wp2_with fail
      refine (FD.out _ BL2.out).mono ?_; rintro e w3 ⟨rfl, b3⟩
      have B3 := Lib.hid (B2.out.trans (b3.mono B2.out.size))
      have BL3 := Lib.hid (BL2.out.trans (b3.mono (by have := BL2.out.size; omega)))
      obtain ⟨k1, -⟩ := NT.out.below B3.out NT.out.2
      have h3s := B3.out.size
      have hjc : (j : Int) ≤ (c : Int) := by omega
      have hcells3 := CL.out _ BL3.out
      clear b3 hW1
      go_wp2_with (at_builtin; refine wpList_append_own _ rfl (.const (.slice none 0 0)) (.tmp 24) 23 rfl (x + 2) 27 i0 _ 5 48 Tryz.underlying23 hi hz0 hz1 hz2 rfl (by decide) (.slice none 0 0) 0 [] rfl (World.ownsRow_nil _ _ _ _) ⟨g, o, none⟩ j c (flat encPn (ps.take j)) rfl ?qc1 ?qc2 ?qc3 ?qc4 ?qc5 ?qc6 ?_)
      case qc1 => rw [flat_length encPn_len, List.length_take]; omega
      case qc2 => exact cells_news (cells_take hcells3 j)
      case qc3 => exact flat_oneCell encPn_one _
      case qc4 => unfold maxLen; omega
      case qc5 => omega
      case qc6 => omega
      intro v1 w4 hown1 hgrow1 hn1
      have B4 := Lib.hid (B3.out.grown hgrow1 (by omega) (fun k hk => by cases hk))
      have BL4 := Lib.hid (BL3.out.grown hgrow1 (by omega) (fun k hk => by cases hk))
      have h4s := hgrow1.size
      have O1 := Lib.hid hown1
      have OL1 := Lib.hid (World.ownsRow.lt hown1)
      have hcells4 := CL.out _ BL4.out
      obtain ⟨k1, -⟩ := NT.out.below B4.out NT.out.2
      have hjn1 : ((j + 1 : Nat) : Int) ≤ (N : Int) := by omega
      clear hown1 hgrow1 hn1 hcells3
      have AFTER : Hid (∀ v2 w5, w5.ownsRow (x + 2) 27 5 v2 (j + (N - (j + 1))) (flat encPn (ps.take j) ++ flat encPn (ps.drop (j + 1))) → w4.grownBy w5 v1.ownBlock → ∃ a2 c2, v2 = .slice a2 (N - 1) c2 ∧ w5.heap[x + 1]? = some (.cells #[.slice none 0 0] 25 (0, 0)) ∧ RegIn (w5.setCell ⟨x + 1, 0, none⟩ v2) a2 (N - 1) c2 (ps.eraseIdx j) ∧ Below x w (w5.setCell ⟨x + 1, 0, none⟩ v2)) := fun v2 w5 hown2 hgrow2 => by
        have B5 := B4.out.grown hgrow2 (by omega) (fun k hk => by have := (OL1.out k hk).1; omega)
        have BL5 := BL4.out.grown hgrow2 (by omega) (fun k hk => by have := (OL1.out k hk).1; omega)
        have el : (ps.eraseIdx j).length = N - 1 := by rw [List.length_eraseIdx, if_pos hjx, hn.out]
        have ef : flat encPn (ps.eraseIdx j) = flat encPn (ps.take j) ++ flat encPn (ps.drop (j + 1)) := by rw [List.eraseIdx_eq_take_drop_succ, flat_append]
        have ag : AggsAt 27 5 encPn w5 (x + 2) v2 (ps.eraseIdx j) := by
          show w5.ownsRow _ _ 5 v2 (ps.eraseIdx j).length (flat encPn (ps.eraseIdx j))
          rw [el, ef, show N - 1 = j + (N - (j + 1)) from by omega]; exact hown2
        have gs : w5.grownBy (w5.setCell ⟨x + 1, 0, none⟩ v2) (some (x + 1)) := gb_set v2 (gb_refl w5 _)
        have ag6 := ag.grown gs (fun k hk => by cases hk; omega)
        have hfit : ∀ y ∈ ps.eraseIdx j, y.nm.size ≤ maxLen := fun y hy => hft.out y (List.mem_of_mem_eraseIdx hy)
        obtain ⟨a2, c2, e2, r2⟩ := reg_of ag6 hfit
        rw [el] at e2 r2
        exact ⟨a2, c2, e2, RES.out _ B5, r2, BL5.setCell (p := ⟨x + 1, 0, none⟩) (by show x ≤ x + 1; omega) v2⟩
      by_cases hcl : c = j + 1
      · subst hcl
        obtain rfl : N = j + 1 := by omega
        go_wp2_with (at_builtin; refine wpList_append_own _ rfl (.tmp 26) (.tmp 31) 23 rfl (x + 2) 27 i0 _ 5 48 Tryz.underlying23 hi hz0 hz1 hz2 rfl (by decide) v1 j (flat encPn (ps.take j)) rfl O1.out ⟨g, o, none⟩ 0 0 (flat encPn (ps.drop (j + 1))) rfl ?qc1 ?qc2 ?qc3 ?qc4 ?qc5 ?qc6 ?_)
        case qc1 => rw [flat_length encPn_len, List.length_drop, hn.out]; omega
        case qc2 => rw [List.drop_eq_nil_of_le (by rw [hn.out]; omega)]; intro i u hu; simp [flat] at hu
        case qc3 => exact flat_oneCell encPn_one _
        case qc4 => unfold maxLen; omega
        case qc5 => omega
        case qc6 => omega
        intro v2 w5 hown2 hgrow2 hn2
        obtain ⟨a2, c2, hv2, hr5, hreg, hbel⟩ := AFTER.out v2 w5 (by first | exact hown2 | (rw [Nat.sub_self]; exact hown2)) hgrow2
        have ej : j + 1 - 1 = j := rfl
        rw [ej] at hv2 hreg
        subst hv2
        obtain ⟨c0, z0⟩ := cell_at hr5 0
        have p0 := (cell_at (set_at (i := 0) (.slice a2 j c2) hr5) 0).1
        have HREG := Lib.hid hreg
        have HBEL := Lib.hid hbel
        clear hown2 hgrow2 hn2 hreg hbel hr5
        go_wp2
        exact bodyPost_ret (v := .tuple #[.agg #[.slice a2 j c2], .int .i64 0]) (by simp [results, Tryz.results13, go_sem, p0]) rfl ⟨_, _, _, rfl, HREG.out, by rw [hx]; exact HBEL.out⟩
      · have hcl2 : ¬ ((c : Int) = ((j + 1 : Nat) : Int)) := by omega
        go_wp2_with (at_builtin; refine wpList_append_own _ rfl (.tmp 26) (.tmp 31) 23 rfl (x + 2) 27 i0 _ 5 48 Tryz.underlying23 hi hz0 hz1 hz2 rfl (by decide) v1 j (flat encPn (ps.take j)) rfl O1.out ⟨g, o + (j + 1) * 5, none⟩ (N - (j + 1)) (c - (j + 1)) (flat encPn (ps.drop (j + 1))) rfl ?qc1 ?qc2 ?qc3 ?qc4 ?qc5 ?qc6 ?_)
        case qc1 => rw [flat_length encPn_len, List.length_drop, hn.out]
        case qc2 => exact cells_news (cells_drop hcells4 encPn_len (j + 1) (by omega))
        case qc3 => exact flat_oneCell encPn_one _
        case qc4 => unfold maxLen; omega
        case qc5 => omega
        case qc6 => omega
        intro v2 w5 hown2 hgrow2 hn2
        obtain ⟨a2, c2, rfl, hr5, hreg, hbel⟩ := AFTER.out v2 w5 (by first | exact hown2 | (rw [Nat.sub_self]; exact hown2)) hgrow2
        obtain ⟨c0, z0⟩ := cell_at hr5 0
        have p0 := (cell_at (set_at (i := 0) (.slice a2 (N - 1) c2) hr5) 0).1
        have HREG := Lib.hid hreg
        have HBEL := Lib.hid hbel
        clear hown2 hgrow2 hn2 hreg hbel hr5
        go_wp2
        exact bodyPost_ret (v := .tuple #[.agg #[.slice a2 (N - 1) c2], .int .i64 0]) (by simp [results, Tryz.results13, go_sem, p0]) rfl ⟨_, _, _, rfl, HREG.out, by rw [hx]; exact HBEL.out⟩
  · have TE : (E == 0) = false := beq_eq_false_iff_ne.2 e0
    have hR : remP ps s = ([], E) := by unfold remP; rw [if_pos (by rw [hE]; exact e0), hE]
    rw [hR]
    clear hR hE h e0
    obtain ⟨k1, -⟩ := NT.out
    go_enter Tryz.func13, Tryz.ntmps13
    go_wp2_with fail
    refine CK.out.mono ?_; rintro e w2 ⟨rfl, b2⟩
    have B2 := Lib.hid b2
    have BL2 := Lib.hid (BX.out.trans (b2.mono (by have := BX.out.size; omega)))
    have hr3 := RES.out _ B2.out
    obtain ⟨c0, z0⟩ := cell_at hr3 0
    have e1 := set_at (i := 0) (.slice none 0 0) hr3
    have p0 := (cell_at e1 0).1
    have BE := Lib.hid (BL2.out.setCell (p := ⟨x + 1, 0, none⟩) (by show x ≤ x + 1; omega) (.slice none 0 0))
    clear hr3 e1 b2 hW1
    go_wp2
    exact bodyPost_ret (v := .tuple #[.agg #[.slice none 0 0], .int .i64 E]) (by simp [results, Tryz.results13, go_sem, p0]) rfl ⟨_, _, _, rfl, reg_nil _, by rw [hx]; exact BE.out⟩
end Go.Proofs.YthdjpmiohfaphaaGreatDoor.reg
