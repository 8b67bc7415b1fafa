/- The walk of layer 5's program: Add. It computes what the plain facts say. Condition: the table 'classes'; skills are numbers of 64 bits. -/
import Derived.Test.YtceidbjjciejhaaDoorPgG
import Derived.Test.YtceidbjjciejhaaDoorInv4
namespace Go.Proofs.YtceidbjjciejhaaDoor.reg
open Go.RowKit lex aggs kit net deck

/-- while the copy is made and the person put in: slot 2 is the copy, 5 the person's row, 6 the new list, 7 the new register -/
structure SIns (w1 : World) (x n : Nat) (ps qs : List Pn) (p : Pn) (done : Nat → Bool) (vs : Nat → Value) (W : World) : Prop where
  below : Below (x + 2) w1 W
  size : x + 3 ≤ W.heap.size
  res : done 8 = false → W.heap[x + 2]? = some (.cells #[.slice none 0 0] 29 (0, 0))
  copy : done 2 = true → done 6 = false → AggsAt 32 5 encPn W (x + 3) (vs 2) ps
  row : done 5 = true → done 6 = false → ∃ q, vs 5 = .slice (some ⟨q, 0, none⟩) 1 1 ∧ W.heap[q]? = some (.cells #[.string p.nm, .int .i64 p.co, .int .i64 p.sk, .int .i64 p.fr, .int .i64 p.un] 32 (0, 0)) ∧ x + 3 ≤ q ∧ (done 2 = true → (vs 2).ownBlock ≠ some q)
  ins : done 6 = true → done 8 = false → AggsAt 32 5 encPn W (x + 3) (vs 6) qs
  reg : done 7 = true → vs 7 = .agg #[vs 6]
  dn67 : done 7 = true → done 6 = true
  fin : done 8 = true → ∃ a c, W.heap[x + 2]? = some (.cells #[.slice a n c] 29 (0, 0)) ∧ RegIn W a n c qs
theorem SIns.mark {w1 : World} {x n : Nat} {ps qs : List Pn} {p : Pn} {done : Nat → Bool} {vs : Nat → Value} {W : World} (h : SIns w1 x n ps qs p done vs W) (i : Nat) (v : Value) (h2 : i ≠ 2) (h5 : i ≠ 5) (h6 : i ≠ 6) (h7 : i ≠ 7) (h8 : i ≠ 8) : SIns w1 x n ps qs p (fun j => if j = i then true else done j) (inv.upd vs i v) W where
  below := h.below
  size := h.size
  res := fun e => h.res (by simpa [h8.symm] using e)
  copy := fun e e' => by rw [show inv.upd vs i v 2 = vs 2 from if_neg h2.symm]; exact h.copy (by simpa [h2.symm] using e) (by simpa [h6.symm] using e')
  row := fun e e' => by
    obtain ⟨q, q1, q2, q3, q4⟩ := h.row (by simpa [h5.symm] using e) (by simpa [h6.symm] using e')
    exact ⟨q, by rw [show inv.upd vs i v 5 = vs 5 from if_neg h5.symm]; exact q1, q2, q3, fun e2 => by rw [show inv.upd vs i v 2 = vs 2 from if_neg h2.symm]; exact q4 (by simpa [h2.symm] using e2)⟩
  ins := fun e e' => by rw [show inv.upd vs i v 6 = vs 6 from if_neg h6.symm]; exact h.ins (by simpa [h6.symm] using e) (by simpa [h8.symm] using e')
  dn67 := fun e => by simpa [h6.symm] using h.dn67 (by simpa [h7.symm] using e)
  reg := fun e => by rw [show inv.upd vs i v 7 = vs 7 from if_neg h7.symm, show inv.upd vs i v 6 = vs 6 from if_neg h6.symm]; exact h.reg (by simpa [h7.symm] using e)
  fin := fun e => h.fin (by simpa [h8.symm] using e)
theorem aggs_own {base : Nat} {v : Value} {ps : List Pn} {W : World} (h : AggsAt 32 5 encPn W base v ps) : ∀ k, v.ownBlock = some k → base ≤ k ∧ k < W.heap.size := World.ownsRow.lt h
/-- the copy is made -/
theorem SIns.copied {w1 : World} {x n : Nat} {ps qs : List Pn} {p : Pn} {done : Nat → Bool} {vs : Nat → Value} {W W' : World} {v : Value} (h : SIns w1 x n ps qs p done vs W) (d6 : done 6 = false) (d8 : done 8 = false) (d7 : done 7 = false) (hb : Below W.heap.size W W') (hv : AggsAt 32 5 encPn W' W.heap.size v ps) :
    SIns w1 x n ps qs p (fun j => if j = 2 then true else done j) (inv.upd vs 2 v) W' where
  below := h.below.trans (hb.mono (by have := h.size; omega))
  size := Nat.le_trans h.size hb.size
  res := fun e => by rw [hb.block (x + 2) (by have := h.size; omega)]; exact h.res d8
  copy := fun _ _ => AggsAt.mono hv h.size
  row := fun e e' => by
    obtain ⟨q, q1, q2, q3, q4⟩ := h.row e d6
    exact ⟨q, q1, by rw [hb.block q (lt_of_block q2)]; exact q2, q3, fun _ e3 => by
      have := (aggs_own hv q e3).1
      have := lt_of_block q2
      omega⟩
  ins := fun e _ => by have : done 6 = true := e; rw [d6] at this; cases this
  reg := fun e => by have : done 7 = true := e; rw [d7] at this; cases this
  dn67 := fun e => by have : done 7 = true := e; rw [d7] at this; cases this
  fin := fun e => by have : done 8 = true := e; rw [d8] at this; cases this
/-- the person's row is laid -/
theorem SIns.laid {w1 : World} {x n : Nat} {ps qs : List Pn} {p : Pn} {done : Nat → Bool} {vs : Nat → Value} {W : World} (h : SIns w1 x n ps qs p done vs W) (d6 : done 6 = false) (d8 : done 8 = false) (d7 : done 7 = false) :
    SIns w1 x n ps qs p (fun j => if j = 5 then true else done j) (inv.upd vs 5 (.slice (some ⟨W.heap.size, 0, none⟩) 1 1)) (W.alloc (.cells #[.string p.nm, .int .i64 p.co, .int .i64 p.sk, .int .i64 p.fr, .int .i64 p.un] 32)) where
  below := h.below.trans ((below_box W _).mono (by have := h.size; omega))
  size := Nat.le_trans h.size (below_box W _).size
  res := fun e => by rw [(below_box W _).block (x + 2) (by have := h.size; omega)]; exact h.res d8
  copy := fun e _ => AggsAt.alloc (h.copy e d6) _
  row := fun _ _ => ⟨_, rfl, heap_alloc_new W _, h.size, fun e e3 => by
    have := (aggs_own (h.copy e d6) _ e3).2
    omega⟩
  ins := fun e _ => by have : done 6 = true := e; rw [d6] at this; cases this
  reg := fun e => by have : done 7 = true := e; rw [d7] at this; cases this
  dn67 := fun e => by have : done 7 = true := e; rw [d7] at this; cases this
  fin := fun e => by have : done 8 = true := e; rw [d8] at this; cases this
/-- the person is put in -/
theorem SIns.put {w1 : World} {x n : Nat} {ps qs : List Pn} {p : Pn} {done : Nat → Bool} {vs : Nat → Value} {W W' : World} {v : Value} (h : SIns w1 x n ps qs p done vs W) (d2 : done 2 = true) (d6 : done 6 = false) (d8 : done 8 = false) (d7 : done 7 = false) (hg : W.grownBy W' (vs 2).ownBlock) (hv : AggsAt 32 5 encPn W' (x + 3) v qs) :
    SIns w1 x n ps qs p (fun j => if j = 6 then true else done j) (inv.upd vs 6 v) W' where
  below := h.below.grown hg (by have := h.size; omega) (fun k hk => by have := (aggs_own (h.copy d2 d6) k hk).1; omega)
  size := Nat.le_trans h.size hg.size
  res := fun e => by
    rw [hg.block (x + 2) (by have := h.size; omega) (fun e2 => by have := (aggs_own (h.copy d2 d6) _ e2.symm).1; omega)]; exact h.res d8
  copy := fun _ e' => by simp at e'
  row := fun _ e' => by simp at e'
  ins := fun _ _ => hv
  reg := fun e => by have : done 7 = true := e; rw [d7] at this; cases this
  dn67 := fun e => by have : done 7 = true := e; rw [d7] at this; cases this
  fin := fun e => by have : done 8 = true := e; rw [d8] at this; cases this
theorem SIns.made {w1 : World} {x n : Nat} {ps qs : List Pn} {p : Pn} {done : Nat → Bool} {vs : Nat → Value} {W : World} {v : Value} (h : SIns w1 x n ps qs p done vs W) (d6 : done 6 = true) (hv : v = .agg #[vs 6]) :
    SIns w1 x n ps qs p (fun j => if j = 7 then true else done j) (inv.upd vs 7 v) W :=
  { below := h.below, size := h.size, res := h.res, copy := h.copy, row := h.row, ins := h.ins, reg := fun _ => hv, dn67 := fun _ => d6, fin := h.fin }
theorem SIns.stored {w1 : World} {x n : Nat} {ps qs : List Pn} {p : Pn} {done : Nat → Bool} {vs : Nat → Value} {W : World} {a : Option Addr} {c : Nat} {v : Value} (h : SIns w1 x n ps qs p done vs W) (d6 : done 6 = true) (d8 : done 8 = false) (hv : vs 6 = .slice a n c) (hf : ∀ y ∈ qs, y.nm.size ≤ maxLen) (hn : qs.length = n) :
    SIns w1 x n ps qs p (fun j => if j = 8 then true else done j) (inv.upd vs 8 v) (W.setCell ⟨x + 2, 0, none⟩ (.slice a n c)) := by
  have gs : W.grownBy (W.setCell ⟨x + 2, 0, none⟩ (.slice a n c)) (some (x + 2)) := gb_set _ (gb_refl W _)
  have hi := h.ins d6 d8
  rw [hv] at hi
  have ag := hi.grown gs (fun k hk => by cases hk; omega)
  obtain ⟨a2, c2, e2, r2⟩ := reg_of ag hf
  rw [hn] at e2 r2
  injection e2 with e3 _ e4
  subst e3; subst e4
  exact {
    below := h.below.setCell (p := ⟨x + 2, 0, none⟩) (Nat.le_refl _) _
    size := Nat.le_trans h.size gs.size
    res := fun e => by simp at e
    copy := fun _ e' => by have : done 6 = false := e'; rw [d6] at this; cases this
    row := fun _ e' => by have : done 6 = false := e'; rw [d6] at this; cases this
    ins := fun _ e' => by simp at e'
    reg := h.reg
    dn67 := h.dn67
    fin := fun _ => ⟨a, c, set_at (i := 0) (.slice a n c) (h.res d8), r2⟩ }
def DIn (x Q N c : Nat) (a : Option Addr) (p : Pn) : Nat → Value → World → Prop
  | 0, v, _ => v = .pointer (some ⟨x, 0, none⟩)
  | 1, v, _ => v = .slice a N c
  | 3, v, _ => v = .int .i64 (Q : Int)
  | 4, v, _ => v = pnV p
  | 9, v, _ => v = .int .i64 0
  | _, _, _ => True
theorem DIn.kept {x Q N c : Nat} {a : Option Addr} {p : Pn} {W W' : World} : ∀ j v, DIn x Q N c a p j v W → DIn x Q N c a p j v W'
  | 0, _, h | 1, _, h | 2, _, h | 3, _, h | 4, _, h | 5, _, h | 6, _, h | 7, _, h | 8, _, h | 9, _, h | _ + 10, _, h => h
set_option maxRecDepth 100000 in
set_option maxHeartbeats 8000000 in
theorem add_is (a : Option Addr) (N c : Nat) (ps : List Pn) (p : Pn) (w : World) (h : RegIn w a N c ps) (hcl : HasClasses w) (hw : SkI ps) (hpl : p.nm.size ≤ maxLen) (hpk : I64 p.sk) :
    Calls Tryd.prog 15 #[.agg #[.slice a N c], pnV p] w (RegPost (addP ps p).1 (addP ps p).2 w) := by
  obtain ⟨⟨R1, R2⟩, hR⟩ : ∃ R, addP ps p = R := ⟨_, rfl⟩
  rw [hR]
  dsimp only
  have bx := below_box w (.cells #[.slice a N c] 29)
  have by_ := below_box (w.alloc (.cells #[.slice a N c] 29)) (.cells #[.string p.nm, .int .i64 p.co, .int .i64 p.sk, .int .i64 p.fr, .int .i64 p.un] 32)
  have bz := below_box ((w.alloc (.cells #[.slice a N c] 29)).alloc (.cells #[.string p.nm, .int .i64 p.co, .int .i64 p.sk, .int .i64 p.fr, .int .i64 p.un] 32)) (.cells #[.slice none 0 0] 29)
  have BX := Lib.hid ((bx.trans (by_.mono bx.size)).trans (bz.mono (bx.trans (by_.mono bx.size)).size))
  have NT := Lib.hid (((OneAt.new w (.slice a N c) 29).below by_ (by simp)).below bz (by simp; omega))
  have PT := Lib.hid ((PnAt.new (w.alloc (.cells #[.slice a N c] 29)) p 32).below bz (by simp))
  have hres := heap_alloc_new ((w.alloc (.cells #[.slice a N c] 29)).alloc (.cells #[.string p.nm, .int .i64 p.co, .int .i64 p.sk, .int .i64 p.fr, .int .i64 p.un] 32)) (.cells #[.slice none 0 0] 29)
  rw [World.size_alloc, World.size_alloc] at hres
  rw [World.size_alloc] at PT
  have HN := Lib.hid (fun wr (bel : Below w.heap.size w wr) => h.below bel)
  obtain ⟨x, hx⟩ : ∃ x, w.heap.size = x := ⟨_, rfl⟩
  obtain ⟨W1, hW1⟩ : ∃ W, ((w.alloc (.cells #[.slice a N c] 29)).alloc (.cells #[.string p.nm, .int .i64 p.co, .int .i64 p.sk, .int .i64 p.fr, .int .i64 p.un] 32)).alloc (.cells #[.slice none 0 0] 29) = W := ⟨_, rfl⟩
  have hs1 : W1.heap.size = x + 3 := by rw [← hW1, ← hx]; simp
  rw [hW1] at BX NT hres PT
  rw [hx] at NT hres PT
  have HN0 := Lib.hid h.len
  have hft := Lib.hid h.fit
  have hn := h.len
  obtain ⟨E, hE⟩ : ∃ E, chkP ps = E := ⟨_, rfl⟩
  obtain ⟨F, hF⟩ : ∃ F, pnE p = F := ⟨_, rfl⟩
  have CK := Lib.hid (check_is a N c ps E W1 (HN.out _ BX.out) (hcl.below BX.out) hw hE)
  have FT := Lib.hid (fun W (b : Below w.heap.size w W) => checkPerson_is p F W (hcl.below b) hpl hpk hF)
  rw [hx] at BX HN FT
  have RES : Hid (∀ W, Below W1.heap.size W1 W → W.heap[x + 2]? = some (.cells #[.slice none 0 0] 29 (0, 0))) := fun W b => by rw [b.block (x + 2) (by omega)]; exact hres
  have HPL := Lib.hid hpl
  unfold pnV at FT ⊢
  obtain ⟨nm, co, sk, fr, un⟩ := p
  dsimp only at FT PT HPL hW1 hR ⊢
  clear bx by_ bz hres hpl hpk hcl hw
  by_cases e0 : E = 0
  · subst e0
    by_cases f0 : F = 0
    · subst f0
      have hOk := chkP_zero.1 hE
      have h64 : N ≤ 64 := by rw [← hn]; exact hOk.len
      obtain ⟨Q, hQ⟩ : ∃ Q, pos ps nm = Q := ⟨_, rfl⟩
      have hQN : Q ≤ N := by rw [← hQ, ← hn]; exact pos_le ps nm
      obtain ⟨b, hb⟩ : ∃ b, decide (fnd (nmsP ps) nm ≠ -1) = b := ⟨_, rfl⟩
      have PL := Lib.hid (fun W (bel : Below x w W) => placeOf_is a N c ps nm Q b W (HN.out W bel) h64 hOk.up hQ hb)
      have hA : addP ps ⟨nm, co, sk, fr, un⟩ = if fnd (nmsP ps) nm ≠ -1 then ([], 4) else if 64 ≤ N then ([], 1) else (ps.take Q ++ ⟨nm, co, sk, fr, un⟩ :: ps.drop Q, 0) := by
        unfold addP
        rw [if_neg (by simp [hE]), if_neg (by simp [hF]), ins_pos, hn, hQ]
      rw [hR] at hA
      cases b with
      | true =>
        rw [if_pos (of_decide_eq_true hb)] at hA
        obtain ⟨rfl, rfl⟩ : R1 = [] ∧ R2 = 4 := by injection hA with a b; exact ⟨a, b⟩
        clear hA hR hQ hF h hE hOk hb
        obtain ⟨k1, -⟩ := NT.out
        obtain ⟨q0, q1, q2, q3, q4, -⟩ := PT.out
        dsimp only at q0 q1 q2 q3 q4
        go_enter Tryd.func15, Tryd.ntmps15
        go_wp2_with fail
        refine CK.out.mono ?_; rintro e w2 ⟨rfl, b2⟩
        have B2 := Lib.hid b2
        have BL2 := Lib.hid (BX.out.trans (b2.mono (by omega)))
        obtain ⟨k1, -⟩ := NT.out.below b2 NT.out.2
        obtain ⟨q0, q1, q2, q3, q4, -⟩ := PT.out.below b2 PT.out.2.2.2.2.2
        dsimp only at q0 q1 q2 q3 q4
        clear b2
        go_wp2_with fail
        refine (FT.out _ BL2.out).mono ?_; rintro e w3 ⟨rfl, b3⟩
        have B3 := Lib.hid (B2.out.trans (b3.mono B2.out.size))
        have BL3 := Lib.hid (BL2.out.trans (b3.mono (by have := B2.out.size; omega)))
        obtain ⟨k1, -⟩ := NT.out.below B3.out NT.out.2
        obtain ⟨q0, q1, q2, q3, q4, -⟩ := PT.out.below B3.out PT.out.2.2.2.2.2
        dsimp only at q0 q1 q2 q3 q4
        clear b3
        go_wp2_with fail
        refine (PL.out _ BL3.out).mono ?_; rintro e w4 ⟨rfl, b4⟩
        have B4 := Lib.hid (B3.out.trans (b4.mono B3.out.size))
        have BL4 := Lib.hid (BL3.out.trans (b4.mono (by have := B3.out.size; omega)))
        obtain ⟨k1, -⟩ := NT.out.below B4.out NT.out.2
        obtain ⟨q0, q1, q2, q3, q4, -⟩ := PT.out.below B4.out PT.out.2.2.2.2.2
        dsimp only at q0 q1 q2 q3 q4
        clear b4
        have hr3 := RES.out _ B4.out
        obtain ⟨c0, z0⟩ := cell_at hr3 0
        have e1 := set_at (i := 0) (.slice none 0 0) hr3
        have p0 := (cell_at e1 0).1
        have BE := Lib.hid (BL4.out.setCell (p := ⟨x + 2, 0, none⟩) (by show x ≤ x + 2; omega) (.slice none 0 0))
        clear hr3 e1
        go_wp2
        exact bodyPost_ret (v := .tuple #[.agg #[.slice none 0 0], .int .i64 4]) (by simp [results, Tryd.results15, go_sem, p0]) rfl ⟨_, _, _, rfl, reg_nil _, by rw [hx]; exact BE.out⟩
      | false =>
        rw [if_neg (of_decide_eq_false hb)] at hA
        by_cases h64' : N = 64
        · rw [if_pos (by omega)] at hA
          obtain ⟨rfl, rfl⟩ : R1 = [] ∧ R2 = 1 := by injection hA with a b; exact ⟨a, b⟩
          have T64 : ((N : Int) == 64) = true := beq_iff_eq.2 (by omega)
          clear hA hR hQ hF h hE hOk hb h64' hn
          obtain ⟨k1, -⟩ := NT.out
          obtain ⟨q0, q1, q2, q3, q4, -⟩ := PT.out
          dsimp only at q0 q1 q2 q3 q4
          go_enter Tryd.func15, Tryd.ntmps15
          go_wp2_with fail
          refine CK.out.mono ?_; rintro e w2 ⟨rfl, b2⟩
          have B2 := Lib.hid b2
          have BL2 := Lib.hid (BX.out.trans (b2.mono (by omega)))
          obtain ⟨k1, -⟩ := NT.out.below b2 NT.out.2
          obtain ⟨q0, q1, q2, q3, q4, -⟩ := PT.out.below b2 PT.out.2.2.2.2.2
          dsimp only at q0 q1 q2 q3 q4
          clear b2
          go_wp2_with fail
          refine (FT.out _ BL2.out).mono ?_; rintro e w3 ⟨rfl, b3⟩
          have B3 := Lib.hid (B2.out.trans (b3.mono B2.out.size))
          have BL3 := Lib.hid (BL2.out.trans (b3.mono (by have := B2.out.size; omega)))
          obtain ⟨k1, -⟩ := NT.out.below B3.out NT.out.2
          obtain ⟨q0, q1, q2, q3, q4, -⟩ := PT.out.below B3.out PT.out.2.2.2.2.2
          dsimp only at q0 q1 q2 q3 q4
          clear b3
          go_wp2_with fail
          refine (PL.out _ BL3.out).mono ?_; rintro e w4 ⟨rfl, b4⟩
          have B4 := Lib.hid (B3.out.trans (b4.mono B3.out.size))
          have BL4 := Lib.hid (BL3.out.trans (b4.mono (by have := B3.out.size; omega)))
          obtain ⟨k1, -⟩ := NT.out.below B4.out NT.out.2
          obtain ⟨q0, q1, q2, q3, q4, -⟩ := PT.out.below B4.out PT.out.2.2.2.2.2
          dsimp only at q0 q1 q2 q3 q4
          clear b4
          have hr3 := RES.out _ B4.out
          obtain ⟨c0, z0⟩ := cell_at hr3 0
          have e1 := set_at (i := 0) (.slice none 0 0) hr3
          have p0 := (cell_at e1 0).1
          have BE := Lib.hid (BL4.out.setCell (p := ⟨x + 2, 0, none⟩) (by show x ≤ x + 2; omega) (.slice none 0 0))
          clear hr3 e1
          go_wp2
          exact bodyPost_ret (v := .tuple #[.agg #[.slice none 0 0], .int .i64 1]) (by simp [results, Tryd.results15, go_sem, p0]) rfl ⟨_, _, _, rfl, reg_nil _, by rw [hx]; exact BE.out⟩
        · rw [if_neg (by omega)] at hA
          obtain ⟨rfl, rfl⟩ : R1 = ps.take Q ++ ⟨nm, co, sk, fr, un⟩ :: ps.drop Q ∧ R2 = 0 := by injection hA with a b; exact ⟨a, b⟩
          have T64 : ((N : Int) == 64) = false := beq_eq_false_iff_ne.2 (by omega)
          have NT2 : Hid (∀ W, Below (x + 2) W1 W → W.cell? ⟨x, 0, none⟩ = some (.slice a N c)) := fun W b => (NT.out.below b (by omega)).1
          have PT2 : Hid (∀ W, Below (x + 2) W1 W → W.cell? ⟨x + 1, 0, none⟩ = some (.string nm) ∧ W.cell? ⟨x + 1, 1, none⟩ = some (.int .i64 co) ∧ W.cell? ⟨x + 1, 2, none⟩ = some (.int .i64 sk) ∧ W.cell? ⟨x + 1, 3, none⟩ = some (.int .i64 fr) ∧ W.cell? ⟨x + 1, 4, none⟩ = some (.int .i64 un)) := fun W b => by
            obtain ⟨q0, q1, q2, q3, q4, -⟩ := PT.out.below b (by omega)
            exact ⟨q0, q1, q2, q3, q4⟩
          have BL2W : Hid (∀ W, Below (x + 2) W1 W → Below x w W) := fun W b => BX.out.trans (b.mono (by omega))
          have CLN := Lib.hid (fun W (bel : Below (x + 2) W1 W) => clone_is a N c ps W (HN.out W (BL2W.out W bel)) h64)
          have PSL : Hid (ps.length ≤ 64) := hOk.len
          have QL := Lib.hid hQN
          have HFIT : Hid (∀ y ∈ ps.take Q ++ ⟨nm, co, sk, fr, un⟩ :: ps.drop Q, y.nm.size ≤ maxLen) := fun y hy => by
            rcases List.mem_append.1 hy with hy | hy
            · exact hft.out y (List.mem_of_mem_take hy)
            · rcases List.mem_cons.1 hy with rfl | hy
              · exact HPL.out
              · exact hft.out y (List.mem_of_mem_drop hy)
          clear hA hR hQ hF h hE hOk hb h64' hn
          obtain ⟨k1, -⟩ := NT.out
          obtain ⟨q0, q1, q2, q3, q4, -⟩ := PT.out
          dsimp only at q0 q1 q2 q3 q4
          go_enter Tryd.func15, Tryd.ntmps15
          go_wp2_with fail
          refine CK.out.mono ?_; rintro e w2 ⟨rfl, b2⟩
          have B2 := Lib.hid b2
          have BL2 := Lib.hid (BX.out.trans (b2.mono (by omega)))
          obtain ⟨k1, -⟩ := NT.out.below b2 NT.out.2
          obtain ⟨q0, q1, q2, q3, q4, -⟩ := PT.out.below b2 PT.out.2.2.2.2.2
          dsimp only at q0 q1 q2 q3 q4
          clear b2
          go_wp2_with fail
          refine (FT.out _ BL2.out).mono ?_; rintro e w3 ⟨rfl, b3⟩
          have B3 := Lib.hid (B2.out.trans (b3.mono B2.out.size))
          have BL3 := Lib.hid (BL2.out.trans (b3.mono (by have := B2.out.size; omega)))
          obtain ⟨k1, -⟩ := NT.out.below B3.out NT.out.2
          obtain ⟨q0, q1, q2, q3, q4, -⟩ := PT.out.below B3.out PT.out.2.2.2.2.2
          dsimp only at q0 q1 q2 q3 q4
          clear b3
          go_wp2_with fail
          refine (PL.out _ BL3.out).mono ?_; rintro e w4 ⟨rfl, b4⟩
          have B4 := Lib.hid (B3.out.trans (b4.mono B3.out.size))
          have BL4 := Lib.hid (BL3.out.trans (b4.mono (by have := B3.out.size; omega)))
          obtain ⟨k1, -⟩ := NT.out.below B4.out NT.out.2
          obtain ⟨q0, q1, q2, q3, q4, -⟩ := PT.out.below B4.out PT.out.2.2.2.2.2
          dsimp only at q0 q1 q2 q3 q4
          clear b4
          go_wp2_with fail
          have S0 : Hid (∀ yh, SIns W1 x (N + 1) ps (ps.take Q ++ ⟨nm, co, sk, fr, un⟩ :: ps.drop Q) ⟨nm, co, sk, fr, un⟩ (fun _ => false) yh w4.drew) := fun yh => {
            below := ((B4.out.mono (by omega) : Below (x + 2) W1 w4)).drew
            size := by have := B4.out.size; show x + 3 ≤ w4.heap.size; omega
            res := fun _ => (show w4.drew.heap[x + 2]? = w4.heap[x + 2]? from rfl).trans (RES.out _ B4.out)
            copy := fun e => by cases e
            row := fun e => by cases e
            ins := fun e => by cases e
            reg := fun e => by cases e
            dn67 := fun e => by cases e
            fin := fun e => by cases e }
          refine inv.wp_region_inv4 (SIns W1 x (N + 1) ps (ps.take Q ++ ⟨nm, co, sk, fr, un⟩ :: ps.drop Q) ⟨nm, co, sk, fr, un⟩) (DIn x Q N c a ⟨nm, co, sk, fr, un⟩) (by kernel_rfl) (by kernel_rfl) (S0.out _) ?steps ?rest
          case steps =>
            refine ⟨fun vs W done hS hD hdn hno hold hcl hme K hK => ?_, fun vs W done hS hD hdn hno hold hcl hme K hK => ?_, fun vs W done hS hD hdn hno hold hcl hme K hK => ?_, fun vs W done hS hD hdn hno hold hcl hme K hK => ?_, fun vs W done hS hD hdn hno hold hcl hme K hK => ?_, fun vs W done hS hD hdn hno hold hcl hme K hK => ?_, fun vs W done hS hD hdn hno hold hcl hme K hK => ?_, fun vs W done hS hD hdn hno hold hcl hme K hK => ?_, fun vs W done hS hD hdn hno hold hcl hme K hK => ?_, fun vs W done hS hD hdn hno hold hcl hme K hK => ?_, trivial⟩
            · clear hold; clear hcl; simp only [inv.dstsL, inv.putT, Nat.reduceAdd, List.set_cons_zero, List.set_cons_succ]
              go_simp
              exact hK _ _ _ (by simp only [inv.dstsL, inv.putT, Nat.reduceAdd, List.set_cons_zero, List.set_cons_succ]; (try rfl)) (hS.mark 0 _ (by decide) (by decide) (by decide) (by decide) (by decide)) (rfl) (fun _ _ _ _ h => h)
            · clear hold; clear hcl; simp only [inv.dstsL, inv.putT, Nat.reduceAdd, List.set_cons_zero, List.set_cons_succ]
              have h0 : (vs 0) = .pointer (some ⟨x, 0, none⟩) := hD 0 (by kernel_rfl)
              have c0 := (NT2.out W hS.below)
              rw [h0]
              go_simp
              exact hK _ _ _ (by simp only [inv.dstsL, inv.putT, Nat.reduceAdd, List.set_cons_zero, List.set_cons_succ, h0]; (try rfl)) (hS.mark 1 _ (by decide) (by decide) (by decide) (by decide) (by decide)) (rfl) (fun _ _ _ _ h => h)
            · clear hold; simp only [inv.dstsL, inv.putT, Nat.reduceAdd, List.set_cons_zero, List.set_cons_succ]
              have h1 : (vs 1) = .slice a N c := hD 1 (by kernel_rfl)
              have d6 := hno 6 (by kernel_rfl)
              have d7 : done 7 = false := Bool.eq_false_iff.2 (fun h => by have := hcl 7 (by decide) h 6 (by kernel_rfl); rw [d6] at this; cases this)
              have d8 : done 8 = false := Bool.eq_false_iff.2 (fun h => by have := hcl 8 (by decide) h 7 (by kernel_rfl); rw [d7] at this; cases this)
              clear hcl
              rw [h1]
              go_simp
              refine (CLN.out W hS.below).mono ?_; rintro e W2 ⟨v1, rfl, ag, b4⟩
              exact hK _ _ _ (by simp only [inv.dstsL, inv.putT, Nat.reduceAdd, List.set_cons_zero, List.set_cons_succ, h1]; (try rfl)) (hS.copied d6 d8 d7 b4 ag) (trivial) (fun j v _ _ => (DIn.kept) j v)
            · clear hold; clear hcl; simp only [inv.dstsL, inv.putT, Nat.reduceAdd, List.set_cons_zero, List.set_cons_succ]
              go_simp
              exact hK _ _ _ (by simp only [inv.dstsL, inv.putT, Nat.reduceAdd, List.set_cons_zero, List.set_cons_succ]; (try rfl)) (hS.mark 3 _ (by decide) (by decide) (by decide) (by decide) (by decide)) (rfl) (fun _ _ _ _ h => h)
            · clear hold; clear hcl; simp only [inv.dstsL, inv.putT, Nat.reduceAdd, List.set_cons_zero, List.set_cons_succ]
              obtain ⟨q0, q1, q2, q3, q4⟩ := PT2.out W hS.below
              go_simp
              exact hK _ _ _ (by simp only [inv.dstsL, inv.putT, Nat.reduceAdd, List.set_cons_zero, List.set_cons_succ]; (try rfl)) (hS.mark 4 _ (by decide) (by decide) (by decide) (by decide) (by decide)) (rfl) (fun _ _ _ _ h => h)
            · clear hold; simp only [inv.dstsL, inv.putT, Nat.reduceAdd, List.set_cons_zero, List.set_cons_succ]
              have h4 : (vs 4) = pnV ⟨nm, co, sk, fr, un⟩ := hD 4 (by kernel_rfl)
              have d6 := hno 6 (by kernel_rfl)
              have d7 : done 7 = false := Bool.eq_false_iff.2 (fun h => by have := hcl 7 (by decide) h 6 (by kernel_rfl); rw [d6] at this; cases this)
              have d8 : done 8 = false := Bool.eq_false_iff.2 (fun h => by have := hcl 8 (by decide) h 7 (by kernel_rfl); rw [d7] at this; cases this)
              clear hcl
              rw [h4]
              unfold pnV
              go_simp
              exact hK _ _ _ (by simp only [inv.dstsL, inv.putT, Nat.reduceAdd, List.set_cons_zero, List.set_cons_succ, h4]; (try rfl)) (hS.laid d6 d8 d7) (trivial) (fun j v _ _ => (DIn.kept) j v)
            · clear hold; simp only [inv.dstsL, inv.putT, Nat.reduceAdd, List.set_cons_zero, List.set_cons_succ]
              have h3 : (vs 3) = .int .i64 (Q : Int) := hD 3 (by kernel_rfl)
              have d2 : done 2 = true := hdn 2 (by kernel_rfl)
              have d6 : done 6 = false := hme
              have d7 := hno 7 (by kernel_rfl)
              have d8 : done 8 = false := Bool.eq_false_iff.2 (fun h => by have := hcl 8 (by decide) h 7 (by kernel_rfl); rw [d7] at this; cases this)
              clear hcl
              obtain ⟨q, h5q, hqb, hqx, hqn⟩ := hS.row (hdn 5 (by kernel_rfl)) d6
              rw [h3, h5q]
              go_simp
              refine (insert_is (x + 3) q Q (vs 2) ps _ W (hS.copy d2 d6) (by have := PSL.out; omega) (by have := QL.out; have := HN0.out; omega) hS.size (hqn d2) hqb).mono ?_; rintro e W2 ⟨v1, rfl, ag, g4⟩
              exact hK _ _ _ (by simp only [inv.dstsL, inv.putT, Nat.reduceAdd, List.set_cons_zero, List.set_cons_succ, h3, h5q]; (try rfl)) (hS.put d2 d6 d8 d7 g4 ag) (trivial) (fun j v _ _ => (DIn.kept) j v)
            · clear hold; clear hcl; simp only [inv.dstsL, inv.putT, Nat.reduceAdd, List.set_cons_zero, List.set_cons_succ]
              have d6 := hdn 6 (by kernel_rfl)
              have d8 := hno 8 (by kernel_rfl)
              obtain ⟨a2, c2, h62⟩ : ∃ a2 c2, vs 6 = .slice a2 (N + 1) c2 := by obtain ⟨a9, c9, e, -⟩ := AggsAt.length (hS.ins d6 d8) encPn_len; exact ⟨a9, c9, by rw [e, ins_len HN0.out QL.out]⟩
              rw [h62]
              go_simp
              exact hK _ _ _ (by simp only [inv.dstsL, inv.putT, Nat.reduceAdd, List.set_cons_zero, List.set_cons_succ, h62]; (try rfl)) (hS.made d6 (by rw [h62])) (trivial) (fun _ _ _ _ h => h)
            · clear hold; simp only [inv.dstsL, inv.putT, Nat.reduceAdd, List.set_cons_zero, List.set_cons_succ]
              have d6 : done 6 = true := hS.dn67 (hdn 7 (by kernel_rfl))
              have d8 : done 8 = false := hme
              obtain ⟨a2, c2, h62⟩ : ∃ a2 c2, vs 6 = .slice a2 (N + 1) c2 := by obtain ⟨a9, c9, e, -⟩ := AggsAt.length (hS.ins d6 d8) encPn_len; exact ⟨a9, c9, by rw [e, ins_len HN0.out QL.out]⟩
              have h72 := hS.reg (hdn 7 (by kernel_rfl))
              rw [h62] at h72
              obtain ⟨c0, f0⟩ := cell_at (hS.res d8) 0
              clear hcl
              rw [h72]
              go_simp
              exact hK undef _ _ (by simp only [inv.dstsL, inv.putT, Nat.reduceAdd, List.set_cons_zero, List.set_cons_succ, h72, h62]; (try rfl)) (hS.stored d6 d8 h62 HFIT.out (ins_len HN0.out QL.out)) (by first | rfl | trivial) (fun j v _ _ => DIn.kept j v)
            · clear hold; clear hcl; simp only [inv.dstsL, inv.putT, Nat.reduceAdd, List.set_cons_zero, List.set_cons_succ]
              go_simp
              exact hK _ _ _ (by simp only [inv.dstsL, inv.putT, Nat.reduceAdd, List.set_cons_zero, List.set_cons_succ]; (try rfl)) (hS.mark 9 _ (by decide) (by decide) (by decide) (by decide) (by decide)) (rfl) (fun _ _ _ _ h => h)
          case rest =>
            intro vs W done hdone hS hD
            obtain ⟨a9, c9, h9, r9⟩ := hS.fin (hdone 8 (by decide))
            have BL9 := Lib.hid (BL2W.out W hS.below)
            have h09 : vs 9 = .int .i64 0 := hD 9 (by decide)
            simp only [inv.dstsL, inv.putT, Nat.reduceAdd, List.set_cons_zero, List.set_cons_succ]
            rw [h09]
            have p0 := (cell_at h9 0).1
            have R9 := Lib.hid r9
            generalize vs 0 = y0, vs 1 = y1, vs 2 = y2, vs 3 = y3, vs 4 = y4, vs 5 = y5, vs 6 = y6, vs 7 = y7 at *
            clear hD hdone hS h9 r9 h09
            go_wp2
            exact bodyPost_ret (v := .tuple #[.agg #[.slice a9 (N + 1) c9], .int .i64 0]) (by simp [results, Tryd.results15, go_sem, p0]) rfl ⟨_, _, _, rfl, R9.out, by rw [hx]; exact BL9.out⟩
    · have hA : addP ps ⟨nm, co, sk, fr, un⟩ = ([], F) := by unfold addP; rw [if_neg (by simp [hE]), if_pos (by rw [hF]; exact f0), hF]
      rw [hR] at hA
      obtain ⟨rfl, rfl⟩ : R1 = [] ∧ F = R2 := by injection hA with a b; exact ⟨a, b.symm⟩
      have TF : (F == 0) = false := beq_eq_false_iff_ne.2 f0
      clear hA hR hF h f0 hE
      obtain ⟨k1, -⟩ := NT.out
      obtain ⟨q0, q1, q2, q3, q4, -⟩ := PT.out
      dsimp only at q0 q1 q2 q3 q4
      go_enter Tryd.func15, Tryd.ntmps15
      go_wp2_with fail
      refine CK.out.mono ?_; rintro e w2 ⟨rfl, b2⟩
      have B2 := Lib.hid b2
      have BL2 := Lib.hid (BX.out.trans (b2.mono (by omega)))
      obtain ⟨k1, -⟩ := NT.out.below b2 NT.out.2
      obtain ⟨q0, q1, q2, q3, q4, -⟩ := PT.out.below b2 PT.out.2.2.2.2.2
      dsimp only at q0 q1 q2 q3 q4
      clear b2
      go_wp2_with fail
      refine (FT.out _ BL2.out).mono ?_; rintro e w3 ⟨rfl, b3⟩
      have B3 := Lib.hid (B2.out.trans (b3.mono B2.out.size))
      have BL3 := Lib.hid (BL2.out.trans (b3.mono (by have := B2.out.size; omega)))
      obtain ⟨k1, -⟩ := NT.out.below B3.out NT.out.2
      obtain ⟨q0, q1, q2, q3, q4, -⟩ := PT.out.below B3.out PT.out.2.2.2.2.2
      dsimp only at q0 q1 q2 q3 q4
      clear b3
      have hr3 := RES.out _ B3.out
      obtain ⟨c0, z0⟩ := cell_at hr3 0
      have e1 := set_at (i := 0) (.slice none 0 0) hr3
      have p0 := (cell_at e1 0).1
      have BE := Lib.hid (BL3.out.setCell (p := ⟨x + 2, 0, none⟩) (by show x ≤ x + 2; omega) (.slice none 0 0))
      clear hr3 e1
      go_wp2
      exact bodyPost_ret (v := .tuple #[.agg #[.slice none 0 0], .int .i64 F]) (by simp [results, Tryd.results15, go_sem, p0]) rfl ⟨_, _, _, rfl, reg_nil _, by rw [hx]; exact BE.out⟩
  · have hA : addP ps ⟨nm, co, sk, fr, un⟩ = ([], E) := by unfold addP; rw [if_pos (by rw [hE]; exact e0), hE]
    rw [hR] at hA
    obtain ⟨rfl, rfl⟩ : R1 = [] ∧ E = R2 := by injection hA with a b; exact ⟨a, b.symm⟩
    have TE : (E == 0) = false := beq_eq_false_iff_ne.2 e0
    clear hA hR hF h e0 hE
    obtain ⟨k1, -⟩ := NT.out
    obtain ⟨q0, q1, q2, q3, q4, -⟩ := PT.out
    dsimp only at q0 q1 q2 q3 q4
    go_enter Tryd.func15, Tryd.ntmps15
    go_wp2_with fail
    refine CK.out.mono ?_; rintro e w2 ⟨rfl, b2⟩
    have B2 := Lib.hid b2
    have BL2 := Lib.hid (BX.out.trans (b2.mono (by omega)))
    obtain ⟨k1, -⟩ := NT.out.below b2 NT.out.2
    obtain ⟨q0, q1, q2, q3, q4, -⟩ := PT.out.below b2 PT.out.2.2.2.2.2
    dsimp only at q0 q1 q2 q3 q4
    clear b2
    have hr3 := RES.out _ B2.out
    obtain ⟨c0, z0⟩ := cell_at hr3 0
    have e1 := set_at (i := 0) (.slice none 0 0) hr3
    have p0 := (cell_at e1 0).1
    have BE := Lib.hid (BL2.out.setCell (p := ⟨x + 2, 0, none⟩) (by show x ≤ x + 2; omega) (.slice none 0 0))
    clear hr3 e1
    go_wp2
    exact bodyPost_ret (v := .tuple #[.agg #[.slice none 0 0], .int .i64 E]) (by simp [results, Tryd.results15, go_sem, p0]) rfl ⟨_, _, _, rfl, reg_nil _, by rw [hx]; exact BE.out⟩
end Go.Proofs.YtceidbjjciejhaaDoor.reg
