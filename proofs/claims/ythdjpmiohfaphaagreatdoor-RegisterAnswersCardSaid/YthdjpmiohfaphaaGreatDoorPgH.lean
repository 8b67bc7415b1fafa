/- The walk of layer 5's program: Remove. It computes what the plain facts say. Condition: the table 'classes'; skills are numbers of 64 bits. -/
import Derived.Test.YthdjpmiohfaphaaGreatDoorPgG
namespace Go.Proofs.YthdjpmiohfaphaaGreatDoor.reg
open Go.RowKit lex aggs kit net deck

set_option maxRecDepth 100000 in
set_option maxHeartbeats 4000000 in
theorem remove_is (a : Option Addr) (N c : Nat) (ps : List Pn) (s : ByteArray) (w : World) (h : RegIn w a N c ps) (hcl : HasClasses w) (hw : SkI ps) :
    Calls Tryz.prog 12 #[.agg #[.slice a N c], .string s] w (RegPost (remP ps s).1 (remP ps s).2 w) := by
  have bx := below_box w (.cells #[.slice a N c] 25)
  have bz := below_box (w.alloc (.cells #[.slice a N c] 25)) (.cells #[.slice none 0 0] 25)
  have BX := Lib.hid (bx.trans (bz.mono bx.size))
  have NT := Lib.hid ((OneAt.new w (.slice a N c) 25).below bz (by simp))
  have hres := heap_alloc_new (w.alloc (.cells #[.slice a N c] 25)) (.cells #[.slice none 0 0] 25)
  rw [World.size_alloc] at hres
  have HN := Lib.hid (fun wr (bel : Below w.heap.size w wr) => h.below bel)
  obtain ⟨x, hx⟩ : ∃ x, w.heap.size = x := ⟨_, rfl⟩
  obtain ⟨W1, hW1⟩ : ∃ W, (w.alloc (.cells #[.slice a N c] 25)).alloc (.cells #[.slice none 0 0] 25) = W := ⟨_, rfl⟩
  have hs1 : W1.heap.size = x + 2 := by rw [← hW1, ← hx]; simp
  rw [hW1] at BX NT hres
  rw [hx] at NT hres
  have hn := Lib.hid h.len
  have hft := Lib.hid h.fit
  obtain ⟨E, hE⟩ : ∃ E, chkP ps = E := ⟨_, rfl⟩
  have CK := Lib.hid (check_is a N c ps E W1 (HN.out _ BX.out) (hcl.below BX.out) hw hE)
  rw [hx] at BX HN
  have RES : Hid (∀ W, Below W1.heap.size W1 W → W.heap[x + 1]? = some (.cells #[.slice none 0 0] 25 (0, 0))) := fun W b => by rw [b.block (x + 1) (by omega)]; exact hres
  clear bx bz hres
  by_cases e0 : E = 0
  · subst e0
    have hOk := chkP_zero.1 hE
    have h64 : N ≤ 64 := by rw [← hn.out]; exact hOk.len
    obtain ⟨Q, hQ⟩ : ∃ Q, pos ps s = Q := ⟨_, rfl⟩
    obtain ⟨b, hb⟩ : ∃ b, decide (fnd (nmsP ps) s ≠ -1) = b := ⟨_, rfl⟩
    have PL := Lib.hid (fun W (bel : Below x w W) => placeOf_is a N c ps s Q b W (HN.out W bel) h64 hOk.up hQ hb)
    by_cases h1 : ∃ h1 : pos ps s < ps.length, ps[pos ps s].nm = s
    · obtain ⟨h1, h2⟩ := h1
      have hf := fnd_pos hOk.up s h1 h2
      rw [hQ] at hf h1
      have hb1 : b = true := by rw [← hb, hf]; exact decide_eq_true (by omega)
      subst hb1
      have hR : remP ps s = (ps.eraseIdx Q, 0) := by unfold remP; rw [if_neg (by simp [hE]), if_neg (by rw [hf]; omega), hf, Int.toNat_natCast]
      rw [hR]
      have CLN := Lib.hid (fun W (bel : Below x w W) => clone_is a N c ps W (HN.out W bel) h64)
      have hw1 : IntKind.i64.wrap ((Q : Int) + 1) = ((Q + 1 : Nat) : Int) := by have := hOk.len; rw [IntKind.wrap_i64]; omega
      have hel : (ps.eraseIdx Q).length = N - 1 := by rw [List.length_eraseIdx, if_pos h1, hn.out]
      have HEL := Lib.hid hel
      have PSL := Lib.hid hOk.len
      have H1 := Lib.hid h1
      clear hb hE hQ hf hR h hcl hw h2 hel h1 hOk
      obtain ⟨k1, -⟩ := NT.out
      go_enter Tryz.func12, Tryz.ntmps12
      go_wp2_with fail
      refine CK.out.mono ?_; rintro e w2 ⟨rfl, b2⟩
      have B2 := Lib.hid b2
      have BL2 := Lib.hid (BX.out.trans (b2.mono (by omega)))
      obtain ⟨k1, -⟩ := NT.out.below b2 NT.out.2
      clear b2
      go_wp2_with fail
      refine (PL.out _ BL2.out).mono ?_; rintro e w3 ⟨rfl, b3⟩
      have B3 := Lib.hid (B2.out.trans (b3.mono B2.out.size))
      have BL3 := Lib.hid (BL2.out.trans (b3.mono (by have := BL2.out.size; omega)))
      obtain ⟨k1, -⟩ := NT.out.below B3.out NT.out.2
      clear b3
      go_wp2_with fail
      refine (CLN.out _ BL3.out).mono ?_; rintro e w4 ⟨v1, rfl, ag, b4⟩
      have B4 := Lib.hid (B3.out.trans (b4.mono B3.out.size))
      have BL4 := Lib.hid (BL3.out.trans (b4.mono (by have := BL3.out.size; omega)))
      have h4s := B3.out.size
      have AG := Lib.hid ag
      have DL := Lib.hid (delete_is w3.heap.size Q v1 ps w4 ag PSL.out H1.out)
      have VB : Hid (∀ k, v1.ownBlock = some k → w3.heap.size ≤ k ∧ k < w4.heap.size) := World.ownsRow.lt ag
      clear b4 ag
      go_wp2_with fail
      refine DL.out.mono ?_; rintro e w5 ⟨v2, rfl, ag5, g5⟩
      have B5 := B4.out.grown g5 (by have := B4.out.size; omega) (fun k hk => by have := (VB.out k hk).1; omega)
      have BL5 := BL4.out.grown g5 (by have := BL4.out.size; have := B4.out.size; omega) (fun k hk => by have := (VB.out k hk).1; omega)
      have gs : w5.grownBy (w5.setCell ⟨x + 1, 0, none⟩ v2) (some (x + 1)) := gb_set v2 (gb_refl w5 _)
      have ag6 := ag5.grown gs (fun k hk => by cases hk; omega)
      have hfit : ∀ y ∈ ps.eraseIdx Q, y.nm.size ≤ maxLen := fun y hy => hft.out y (List.mem_of_mem_eraseIdx hy)
      obtain ⟨a2, c2, e2, r2⟩ := reg_of ag6 hfit
      have hr5 := RES.out _ B5
      subst e2
      rw [HEL.out] at r2 gs ag6 ⊢
      obtain ⟨c0, z0⟩ := cell_at hr5 0
      have p0 := (cell_at (set_at (i := 0) (.slice a2 (N - 1) c2) hr5) 0).1
      have HREG := Lib.hid r2
      have HBEL := Lib.hid (BL5.setCell (p := ⟨x + 1, 0, none⟩) (by show x ≤ x + 1; omega) (.slice a2 (N - 1) c2))
      clear gs ag6 ag5 g5 B5 BL5 hr5 r2 hfit k1
      go_wp2
      exact bodyPost_ret (v := .tuple #[.agg #[.slice a2 (N - 1) c2], .int .i64 0]) (by simp [results, Tryz.results12, go_sem, p0]) rfl ⟨_, _, _, rfl, HREG.out, by rw [hx]; exact HBEL.out⟩
    · have hf := fnd_not hOk.up s (fun q e => h1 ⟨q, e⟩)
      have hb1 : b = false := by rw [← hb, hf]; rfl
      subst hb1
      have hR : remP ps s = ([], 15) := by unfold remP; rw [if_neg (by simp [hE]), if_pos hf]
      rw [hR]
      clear hb hE hQ hf hR h hcl hw h1 hOk
      obtain ⟨k1, -⟩ := NT.out
      go_enter Tryz.func12, Tryz.ntmps12
      go_wp2_with fail
      refine CK.out.mono ?_; rintro e w2 ⟨rfl, b2⟩
      have B2 := Lib.hid b2
      have BL2 := Lib.hid (BX.out.trans (b2.mono (by omega)))
      obtain ⟨k1, -⟩ := NT.out.below b2 NT.out.2
      clear b2
      go_wp2_with fail
      refine (PL.out _ BL2.out).mono ?_; rintro e w3 ⟨rfl, b3⟩
      have B3 := Lib.hid (B2.out.trans (b3.mono B2.out.size))
      have BL3 := Lib.hid (BL2.out.trans (b3.mono (by have := BL2.out.size; omega)))
      clear b3 k1
      have hr3 := RES.out _ B3.out
      obtain ⟨c0, z0⟩ := cell_at hr3 0
      have e1 := set_at (i := 0) (.slice none 0 0) hr3
      have p0 := (cell_at e1 0).1
      have BE := Lib.hid (BL3.out.setCell (p := ⟨x + 1, 0, none⟩) (by show x ≤ x + 1; omega) (.slice none 0 0))
      clear hr3 e1
      go_wp2
      exact bodyPost_ret (v := .tuple #[.agg #[.slice none 0 0], .int .i64 15]) (by simp [results, Tryz.results12, go_sem, p0]) rfl ⟨_, _, _, rfl, reg_nil _, by rw [hx]; exact BE.out⟩
  · have hR : remP ps s = ([], E) := by unfold remP; rw [if_pos (by rw [hE]; exact e0), hE]
    rw [hR]
    have TE : (E == 0) = false := beq_eq_false_iff_ne.2 e0
    clear hR hE h e0 hcl hw
    obtain ⟨k1, -⟩ := NT.out
    go_enter Tryz.func12, Tryz.ntmps12
    go_wp2_with fail
    refine CK.out.mono ?_; rintro e w2 ⟨rfl, b2⟩
    have B3 := Lib.hid b2
    have BL3 := Lib.hid (BX.out.trans (b2.mono (by omega)))
    clear b2 k1
    have hr3 := RES.out _ B3.out
    obtain ⟨c0, z0⟩ := cell_at hr3 0
    have e1 := set_at (i := 0) (.slice none 0 0) hr3
    have p0 := (cell_at e1 0).1
    have BE := Lib.hid (BL3.out.setCell (p := ⟨x + 1, 0, none⟩) (by show x ≤ x + 1; omega) (.slice none 0 0))
    clear hr3 e1
    go_wp2
    exact bodyPost_ret (v := .tuple #[.agg #[.slice none 0 0], .int .i64 E]) (by simp [results, Tryz.results12, go_sem, p0]) rfl ⟨_, _, _, rfl, reg_nil _, by rw [hx]; exact BE.out⟩
end Go.Proofs.YthdjpmiohfaphaaGreatDoor.reg
