/- The walk of layer 7's reference: Shades. It computes what the plain facts say. No condition. -/
import Derived.Test.YtoeojhabhnoojaaDoorCoQ
import Derived.Test.YtoeojhabhnoojaaDoorCoS
namespace Go.Proofs.YtoeojhabhnoojaaDoor.col
open Go.RowKit Go.Maps lex aggs kit net deck msk

theorem set_chk {p : Int} {ns : List Nd} {ds : List Dv} {S : List Int} (hc : chk ns ds = 0) (hl : S.length = ds.length) (h : S.all (hB 1) = true) (hp : 1 ≤ p ∧ p ≤ 2) : chkM 2 ns ds (setL p S) = 0 := by
  refine pos_chk hc (by rw [setL_len]; exact hl) (fun s hs => ?_)
  obtain ⟨i, hi, rfl⟩ := List.mem_iff_getElem.1 hs
  rw [setL_len] at hi
  rw [← at0_get (by rw [setL_len]; exact hi), setL_at hi]
  have := mB_iff.1 (all_iff.1 h i hi)
  split <;> omega
theorem cell_newS (w : World) (g : Nat) (hg : g = w.heap.size) (T : Nat) (x : Sh) : ∀ j u, (encS x)[j]? = some u → (w.alloc (.cells #[.bool x.ml, .bool x.tl, .bool x.me, .bool x.te] T)).cell? ((⟨g, 0, none⟩ : Addr).add j) = some u := by
  subst hg; exact cell_one (enc := encS) (_k := 4) w _ T x rfl
set_option maxRecDepth 100000 in
set_option maxHeartbeats 8000000 in
theorem rShades_is (a b l : Option Addr) (N c M d L k : Nat) (ns : List Nd) (ds : List Dv) (xs : List Int) (E : Int) (w : World) (h : NetIn w a b N c M d ns ds) (hx : LIn w l L k xs) (hE : chkM 1 ns ds xs = E) :
    Calls Tryd.prog 21 #[.agg #[.slice a N c, .slice b M d], .slice l L k] w (ShPost w (shL ds xs N) E) := by
  have bx := below_box w (.cells #[.slice a N c, .slice b M d] 26)
  have NT := NtAt.new w (.slice a N c) (.slice b M d) 26
  have BX := Lib.hid bx
  have S1 := Lib.hid (rCheck_is a b l N c M d L k ns ds xs E _ (h.below bx) (hx.below bx) hE)
  have hsz : (w.alloc (.cells #[.slice a N c, .slice b M d] 26)).heap.size = w.heap.size + 1 := by simp
  have SZ := Lib.hid hsz
  have HN := Lib.hid (fun wr (b : Below w.heap.size w wr) => h.below b)
  have HX := Lib.hid (fun wr (b : Below w.heap.size w wr) => hx.below b)
  have HE := Lib.hid hE
  have hlx := h.dlen
  have hll := hx.len
  have hln := h.nlen
  have n1 := h.ncap
  have n2 := h.nmax
  unfold maxLen at n2
  obtain ⟨c0, c1, hlt⟩ := NT
  clear h hx bx hE hsz
  go_enter Tryd.func21, Tryd.ntmps21
  go_wp2_with fail
  generalize w.alloc (.cells #[.slice a N c, .slice b M d] 26) = W1 at *
  refine S1.out.mono ?_
  rintro e w2 ⟨rfl, b2⟩
  have k0 := (b2.cell (p := ⟨w.heap.size, 0, none⟩) hlt).trans c0
  have k1 := (b2.cell (p := ⟨w.heap.size, 1, none⟩) hlt).trans c1
  have B2 := Lib.hid (BX.out.trans (b2.mono (by have := SZ.out; omega)))
  have hw2 := b2.size
  rw [SZ.out] at hw2
  clear c0 c1 b2 S1
  by_cases e0 : E = 0
  · subst e0
    obtain ⟨q1, q2, -⟩ := chkM_zero HE.out
    obtain ⟨hN, hM⟩ := chk_small q1
    rw [hln] at hN
    rw [hlx] at hM
    have hLM : L = M := by rw [← hll, ← hlx, q2]
    subst hLM
    have Q1 := Lib.hid q1
    have hm := (chkM_zero HE.out).2.2
    have K1 := Lib.hid (set_chk (p := 1) q1 q2 hm (by decide))
    have K2 := Lib.hid (set_chk (p := 2) q1 q2 hm (by decide))
    clear hm
    have HL1 := Lib.hid (setL_len' 1 xs L hll)
    have HL2 := Lib.hid (setL_len' 2 xs L hll)
    have bw0 : Below w2.heap.size w2 w2 := Below.refl _ _
    clear q1 q2 HE
    go_wp2_with fail
    go_region_held3 (fun w' => w'.cell? ⟨w.heap.size, 0, none⟩ = some (.slice a N c) ∧ w'.cell? ⟨w.heap.size, 1, none⟩ = some (.slice b L d) ∧ Below w2.heap.size w2 w')
      (first | exact box_drw ⟨k0, k1, bw0⟩ | exact ⟨k0, k1, bw0⟩ | exact box_drw (by assumption) | exact box_bel (by assumption) (by assumption) | exact box_drw (box_bel (by assumption) (by assumption)) | go_keep)
      (first
        | (go_at_call 46; refine (rLowest_is l L k xs _ (HX.out _ (B2.out.trans (And.right (And.right (by assumption : _ ∧ _ ∧ Below w2.heap.size w2 _)) |>.mono B2.out.size))) hM).mono ?_; rintro e w7 ⟨v, rfl, hv, b7⟩; obtain ⟨av, cv, rfl, lv, -⟩ := hv.lin; rw [HL1.out] at lv ⊢)
        | (go_at_call 19; refine (rColours_is a b _ N c L d _ _ ns ds _ 0 _ (HN.out _ (B2.out.trans (And.right (And.right (by assumption : _ ∧ _ ∧ Below w2.heap.size w2 _)) |>.mono B2.out.size))) (by assumption) K1.out).mono ?_; rintro e w8 ⟨v, rfl, hv, b7⟩; rw [if_pos rfl] at hv))
    rename_i hS
    obtain ⟨k0, k1, hB8⟩ := hS
    have B8 := Lib.hid (B2.out.trans (hB8.mono B2.out.size))
    have hw8 := hB8.size
    obtain ⟨ah, ch, rfl, lh, -⟩ := hv.lin
    rw [coL_len] at lh ⊢
    have LH := Lib.hid lh
    have bw8 : Below w8.heap.size w8 w8 := Below.refl _ _
    clear hB8 hv b7 lv lh
    go_wp2_with fail
    go_region_held3 (fun w' => w'.cell? ⟨w.heap.size, 0, none⟩ = some (.slice a N c) ∧ w'.cell? ⟨w.heap.size, 1, none⟩ = some (.slice b L d) ∧ Below w8.heap.size w8 w')
      (first | exact box_drw ⟨k0, k1, bw8⟩ | exact ⟨k0, k1, bw8⟩ | exact box_drw (by assumption) | exact box_bel (by assumption) (by assumption) | exact box_drw (box_bel (by assumption) (by assumption)) | go_keep)
      (first
        | (go_at_call 47; refine (rHighest_is l L k xs _ (HX.out _ (B8.out.trans (And.right (And.right (by assumption : _ ∧ _ ∧ Below w8.heap.size w8 _)) |>.mono B8.out.size))) hM).mono ?_; rintro e w9 ⟨v, rfl, hv, b7⟩; obtain ⟨al, cl, rfl, lv, -⟩ := hv.lin; rw [HL2.out] at lv ⊢)
        | (go_at_call 19; refine (rColours_is a b _ N c L d _ _ ns ds _ 0 _ (HN.out _ (B8.out.trans (And.right (And.right (by assumption : _ ∧ _ ∧ Below w8.heap.size w8 _)) |>.mono B8.out.size))) (by assumption) K2.out).mono ?_; rintro e w10 ⟨v, rfl, hv, b7⟩; rw [if_pos rfl] at hv))
    rename_i hS
    obtain ⟨k0, k1, hB10⟩ := hS
    have B10 := Lib.hid (B8.out.trans (hB10.mono B8.out.size))
    have hw10 := hB10.size
    obtain ⟨am, cm, rfl, lm, -⟩ := hv.lin
    rw [coL_len] at lm ⊢
    have LH := Lib.hid (LH.out.below hB10)
    have LM := Lib.hid lm
    clear hB10 hv b7 lv lm
    have p1 := LH.out.cap
    have p2 := LH.out.max
    have p3 := LM.out.cap
    have p4 := LM.out.max
    unfold maxLen at p2 p4
    obtain ⟨i0, hi, hz0, hz1, hz2⟩ := info_parts infoS
    have K0 := Lib.hid k0
    have LHX := Lib.hid (fun wr (b : Below w10.heap.size w10 wr) => LH.out.below b)
    have LMX := Lib.hid (fun wr (b : Below w10.heap.size w10 wr) => LM.out.below b)
    go_wp2_with fail
    clear k0 k1
    go_loopw [11, 12] (fun q i wr => ∃ k : Nat, k ≤ N ∧ i = .int .i64 k ∧ Hid (OwnS wr w10.heap.size q ((shL ds xs N).take k)) ∧ Hid (Below w10.heap.size w10 wr)) (fun _ i _ => N - (intOf i).toNat)
    case atStart => exact ⟨0, Nat.zero_le _, rfl, AggsAt.nil _ _ _ _ _, Below.refl _ _⟩
    case round =>
      obtain ⟨v, hk, rfl, own, bel⟩ := hrel
      have k0 := (bel.out.cell (p := ⟨w.heap.size, 0, none⟩) (by show w.heap.size < _; omega)).trans K0.out
      by_cases hlt : v < N
      · obtain ⟨g3, o3, hpe, hg3, hcp⟩ := (LHX.out _ bel.out).rin.some (by rw [coL_len]; omega)
        obtain ⟨g4, o4, hqe, hg4, hcq⟩ := (LMX.out _ bel.out).rin.some (by rw [coL_len]; omega)
        have hq3 : g3 < w10.heap.size := by
          obtain ⟨g', o', e', h', -⟩ := LH.out.rin.some (by rw [coL_len]; omega)
          rw [hpe] at e'; cases e'; exact h'
        have hq4 : g4 < w10.heap.size := by
          obtain ⟨g', o', e', h', -⟩ := LM.out.rin.some (by rw [coL_len]; omega)
          rw [hqe] at e'; cases e'; exact h'
        have r0 := cells_i hcp v (by rw [coL_len]; exact hlt)
        have r1 := cells_i hcq v (by rw [coL_len]; exact hlt)
        rw [coL_at hlt] at r0 r1
        have x0 := bits_b1 (colr_in ds (setL 2 xs) v)
        have x1 := bits_b1 (colr_in ds (setL 1 xs) v)
        have x2 := bits_b2 (colr_in ds (setL 2 xs) v)
        have x3 := bits_b2 (colr_in ds (setL 1 xs) v)
        have hz : (shL ds xs N)[v]'(by rw [shL_len]; exact hlt) = ⟨b1 (colr ds (setL 2 xs) v), b1 (colr ds (setL 1 xs) v), b2 (colr ds (setL 2 xs) v), b2 (colr ds (setL 1 xs) v)⟩ := by simp [shL, shd]
        have TK : (shL ds xs N).take (v + 1) = (shL ds xs N).take v ++ [⟨b1 (colr ds (setL 2 xs) v), b1 (colr ds (setL 1 xs) v), b2 (colr ds (setL 2 xs) v), b2 (colr ds (setL 1 xs) v)⟩] := by rw [← hz, List.take_append_getElem]
        have hTL : ((shL ds xs N).take v).length = v := by rw [List.length_take, shL_len]; omega
        clear hz
        generalize colr ds (setL 2 xs) v = X at *
        generalize colr ds (setL 1 xs) v = Y at *
        generalize b1 X = y0 at *
        generalize b1 Y = y1 at *
        generalize b2 X = y2 at *
        generalize b2 Y = y3 at *
        have lt : ∀ q : Nat, Value.ownBlock u11 = some q → w10.heap.size ≤ q := fun q hq => (World.ownsRow.lt own.out q hq).1
        have LT := Lib.hid lt
        subst hpe
        subst hqe
        have hTLH := Lib.hid hTL
        have HTK := Lib.hid TK
        have own2 := Lib.hid (AggsAt.alloc (show OwnS wr.drew w10.heap.size u11 _ from own.out) (.cells #[.bool y0, .bool y1, .bool y2, .bool y3] 55))
        have bel2 := Lib.hid (bel.out.drew.trans ((below_box wr.drew (.cells #[.bool y0, .bool y1, .bool y2, .bool y3] 55)).mono bel.out.size))
        have hne1 : some g3 ≠ Value.ownBlock u11 := by have := lt g3; intro e; have := this e.symm; omega
        have hne2 : some g4 ≠ Value.ownBlock u11 := by have := lt g4; intro e; have := this e.symm; omega
        clear hTL TK lt hcp hcq hg3 hg4
        go_wp2_with fail
        go_region_held3 (fun w' => w'.cell? ⟨g3, o3 + v, none⟩ = some (.int .i64 Y) ∧ w'.cell? ⟨g4, o4 + v, none⟩ = some (.int .i64 X))
          (first | exact ⟨r0, r1⟩ | exact pr_drew ⟨r0, r1⟩ | exact pr_drew (by assumption) | exact pr_alloc (by assumption) _ | exact pr_grown (by assumption) (by assumption) hne1 hne2 | go_keep)
          ((refine step_append_i (by rfl) (.tmp 40) (.tmp 66) 41 (by rfl) w10.heap.size 55 i0 _ 4 4 Tryd.underlying41 hi hz0 hz1 hz2 rfl (by decide) u11 ((shL ds xs N).take v).length (flat encS ((shL ds xs N).take v)) (by rfl) own2.out _ 1 1 (encS ⟨y0, y1, y2, y3⟩) (by rfl) rfl (cell_newS _ _ rfl _ ⟨y0, y1, y2, y3⟩) (encS_one _) (by rw [hTLH.out]; unfold maxLen; omega) (by rw [hTLH.out]; omega) bel2.out.size ?_; intro v' w5 hown' hgrow hnil'))
        have NU : Hid (OwnS w5 w10.heap.size v' ((shL ds xs N).take (v + 1))) := by
          show OwnS _ _ _ _
          rw [HTK.out]
          exact AggsAt.push hown'
        have B5 := Lib.hid (bel2.out.grown hgrow bel2.out.size (fun q hq => LT.out q hq))
        clear hown' hgrow hnil' own2 bel2 own bel
        go_wp2
        go_roundw
        case rel => exact ⟨v + 1, by omega, by go_num, NU, B5⟩
        case measure => simp [intOf]; omega
      · have hvN : v = N := by omega
        have FIN : Hid (OwnS wr w.heap.size u11 (shL ds xs N)) := by
          show OwnS _ _ _ _
          have := own.out
          rw [List.take_of_length_le (by rw [shL_len, hvN]; exact Nat.le_refl _)] at this
          exact AggsAt.mono this (by omega)
        have FB := Lib.hid (B10.out.trans (bel.out.mono B10.out.size))
        clear hvN own bel
        go_wp2
        go_ret2
        exact ⟨_, rfl, by rw [if_pos rfl]; exact FIN.out, FB.out⟩
  · have T1 : (E != 0) = true := bne_iff_ne.2 e0
    go_wp2
    go_ret2
    exact ⟨_, rfl, by rw [if_neg e0]; exact AggsAt.nil _ _ _ _ _, B2.out⟩
end Go.Proofs.YtoeojhabhnoojaaDoor.col
