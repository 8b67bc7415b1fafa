/- The walk of the reference of layer 5: Same: whether two registers are equal. No condition. -/
import Derived.Test.YthdjpmiohfaphaaGreatDoorRgD
import Derived.Test.YthdjpmiohfaphaaGreatDoorInv
namespace Go.Proofs.YthdjpmiohfaphaaGreatDoor.reg
open Go.RowKit lex aggs kit net

theorem toList_inj {x y : ByteArray} (h : x.toList = y.toList) : x = y := by
  rw [Lib.toList_data, Lib.toList_data] at h
  cases x; cases y; simp at h; simp [h]
theorem ifs3 {α : Type} {p q r : Prop} [Decidable p] [Decidable q] [Decidable r] {a b : α} (h : ¬ (p ∧ q ∧ r)) : (if p then if q then if r then a else b else b else b) = b := by
  by_cases h1 : p
  · rw [if_pos h1]
    by_cases h2 : q
    · rw [if_pos h2, if_neg (fun h3 => h ⟨h1, h2, h3⟩)]
    · rw [if_neg h2]
  · rw [if_neg h1]
theorem ifs5 {α : Type} {p q r s t : Prop} [Decidable p] [Decidable q] [Decidable r] [Decidable s] [Decidable t] {a b : α} (h : ¬ (p ∧ q ∧ r ∧ s ∧ t)) : (if p then if q then if r then if s then if t then a else b else b else b else b else b) = b := by
  by_cases h1 : p
  · rw [if_pos h1]
    by_cases h2 : q
    · rw [if_pos h2]
      exact ifs3 (fun h3 => h ⟨h1, h2, h3⟩)
    · rw [if_neg h2]
  · rw [if_neg h1]
theorem pn_ne {x y : Pn} (h : x ≠ y) : ¬ (x.nm.toList = y.nm.toList ∧ x.co = y.co ∧ x.sk = y.sk ∧ x.fr = y.fr ∧ x.un = y.un) := fun ⟨h1, h2, h3, h4, h5⟩ => h (by cases x; cases y; simp only at h1 h2 h3 h4 h5; rw [toList_inj h1, h2, h3, h4, h5])
theorem same_upto {α : Type} {xs ys : List α} (hl : xs.length = ys.length) (h : ∀ i (h : i < xs.length) (k : i < ys.length), xs[i] = ys[i]) : xs = ys := List.ext_getElem hl (fun i h1 h2 => h i h1 h2)
def DEq5r (p1 p2 g1 o1 g2 o2 N c d j : Nat) (x y : Value) (b : Bool) : Nat → Value → World → Prop
  | 0, v, _ => v = .pointer (some ⟨p1, 0, none⟩)
  | 1, v, _ => v = .slice (some ⟨g1, o1, none⟩) N c
  | 2, v, _ => v = .int .i64 (j : Int)
  | 3, v, _ => v = .pointer (some ⟨g1, o1 + j * 5, none⟩)
  | 4, v, _ => v = x
  | 5, v, _ => v = .pointer (some ⟨p2, 0, none⟩)
  | 6, v, _ => v = .slice (some ⟨g2, o2, none⟩) N d
  | 7, v, _ => v = .int .i64 (j : Int)
  | 8, v, _ => v = .pointer (some ⟨g2, o2 + j * 5, none⟩)
  | 9, v, _ => v = y
  | 10, v, _ => v = .bool b
  | _, _, _ => True
theorem OneAt.alloc {w : World} {g : Nat} {x : Value} (h : OneAt w g x) (o : Obj) : OneAt (w.alloc o) g x := h.below (below_box w o) h.2
set_option maxRecDepth 100000 in
set_option maxHeartbeats 4000000 in
theorem rsame_len (a a' : Option Addr) (N c c' : Nat) (ps ps' : List Pn) (r : Bool) (w : World) (h : RegIn w a N c ps) (h' : RegIn w a' N c' ps') (hr : r = true ↔ ps = ps') :
    Calls Tryz.prog 14 #[.agg #[.slice a N c], .agg #[.slice a' N c']] w fun e w' => e = .returned (.bool r) ∧ Below w.heap.size w w' := by
  have bx1 := below_box w (.cells #[.slice a N c] 25)
  have bx2 := below_box (w.alloc (.cells #[.slice a N c] 25)) (.cells #[.slice a' N c'] 25)
  have BX := Lib.hid (bx1.trans (bx2.mono bx1.size))
  have NT1 := Lib.hid ((OneAt.new w (.slice a N c) 25).alloc (.cells #[.slice a' N c'] 25))
  have nt2 := OneAt.new (w.alloc (.cells #[.slice a N c] 25)) (.slice a' N c') 25
  rw [World.size_alloc] at nt2
  have NT2 := Lib.hid nt2
  have N1 := Lib.hid h.rin
  have N2 := Lib.hid h'.rin
  have N1L := Lib.hid h.len
  have N2L := Lib.hid h'.len
  have m1 := Nat.le_trans h.ncap h.nmax
  unfold maxLen at m1
  have HR := Lib.hid hr
  clear bx1 bx2 nt2 h h' hr
  obtain ⟨q0, -⟩ := NT1.out
  obtain ⟨q2, -⟩ := NT2.out
  go_enter Tryz.func14, Tryz.ntmps14
  go_wp2_with fail
  clear q0 q2
  go_loopw [5] (fun iv wr => ∃ j : Nat, j ≤ N ∧ iv = .int .i64 j ∧ Hid (Below (w.heap.size + 2) ((w.alloc (.cells #[.slice a N c] 25)).alloc (.cells #[.slice a' N c'] 25)) wr) ∧ Hid (∀ i (h : i < ps.length) (k : i < ps'.length), i < j → ps[i] = ps'[i])) (fun iv _ => N - (intOf iv).toNat)
  case atStart => exact ⟨0, Nat.zero_le _, rfl, Below.refl _ _, fun i _ _ h => by cases h⟩
  case round =>
    obtain ⟨j, hj, rfl, bel, hsame⟩ := hrel
    have BL := Lib.hid (BX.out.trans (bel.out.mono (by omega)))
    by_cases hjn : j < N
    · have hjx : j < ps.length := by rw [N1L.out]; exact hjn
      have hjy : j < ps'.length := by rw [N2L.out]; exact hjn
      obtain ⟨g1, o1, rfl, -, hc1⟩ := (N1.out.below BL.out).some (by omega)
      obtain ⟨g2, o2, rfl, -, hc2⟩ := (N2.out.below BL.out).some (by omega)
      obtain ⟨c0, c1, c2, c3, c4⟩ := cells_pn hc1 j hjx
      obtain ⟨d0, d1, d2, d3, d4⟩ := cells_pn hc2 j hjy
      obtain ⟨q0, -⟩ := NT1.out.below bel.out (by omega)
      obtain ⟨q2, -⟩ := NT2.out.below bel.out (by omega)
      by_cases e : ps[j] = ps'[j]
      · have hnx : Hid (∀ i (h : i < ps.length) (k : i < ps'.length), i < j + 1 → ps[i] = ps'[i]) := fun i h k hi => by
          by_cases q : i = j
          · subst q; exact e
          · exact hsame.out i h k (by omega)
        rw [← e] at d0 d1 d2 d3 d4
        generalize ps[j] = x at *
        obtain ⟨xn, xk, xa, xb, xo⟩ := x
        dsimp only at c0 c1 c2 c3 c4 d0 d1 d2 d3 d4
        clear hc1 hc2 hsame e
        go_wp2_with fail
        refine inv.wp_region_inv (fun _ W => W = wr.drew) (DEq5r w.heap.size (w.heap.size + 1) g1 o1 g2 o2 N c c' j (.agg #[.string xn, .int .i64 xk, .int .i64 xa, .int .i64 xb, .int .i64 xo]) (.agg #[.string xn, .int .i64 xk, .int .i64 xa, .int .i64 xb, .int .i64 xo]) false) (by kernel_rfl) (by kernel_rfl) (rfl) ?steps ?rest
        case steps =>
          refine ⟨fun vs W done hS hD hno K hK => ?_, fun vs W done hS hD hno K hK => ?_, fun vs W done hS hD hno K hK => ?_, fun vs W done hS hD hno K hK => ?_, fun vs W done hS hD hno K hK => ?_, fun vs W done hS hD hno K hK => ?_, fun vs W done hS hD hno K hK => ?_, fun vs W done hS hD hno K hK => ?_, fun vs W done hS hD hno K hK => ?_, fun vs W done hS hD hno K hK => ?_, fun vs W done hS hD hno K hK => ?_, trivial⟩
          · simp only [inv.dstsL, inv.putT, Nat.reduceAdd, List.set_cons_zero, List.set_cons_succ]
            subst hS
            go_simp
            exact hK _ _ _ (by simp only [inv.dstsL, inv.putT, Nat.reduceAdd, List.set_cons_zero, List.set_cons_succ]; (try rfl)) (rfl) (rfl) (fun _ _ h => h)
          · simp only [inv.dstsL, inv.putT, Nat.reduceAdd, List.set_cons_zero, List.set_cons_succ]
            have h0 : (vs 0) = .pointer (some ⟨w.heap.size, 0, none⟩) := hD 0 (by kernel_rfl)
            subst hS
            rw [h0]
            go_simp
            exact hK _ _ _ (by simp only [inv.dstsL, inv.putT, Nat.reduceAdd, List.set_cons_zero, List.set_cons_succ, h0]; (try rfl)) (rfl) (rfl) (fun _ _ h => h)
          · simp only [inv.dstsL, inv.putT, Nat.reduceAdd, List.set_cons_zero, List.set_cons_succ]
            subst hS
            go_simp
            exact hK _ _ _ (by simp only [inv.dstsL, inv.putT, Nat.reduceAdd, List.set_cons_zero, List.set_cons_succ]; (try rfl)) (rfl) (rfl) (fun _ _ h => h)
          · simp only [inv.dstsL, inv.putT, Nat.reduceAdd, List.set_cons_zero, List.set_cons_succ]
            have h1 : (vs 1) = .slice (some ⟨g1, o1, none⟩) N c := hD 1 (by kernel_rfl)
            have h2 : (vs 2) = .int .i64 (j : Int) := hD 2 (by kernel_rfl)
            subst hS
            rw [h1, h2]
            go_simp
            exact hK _ _ _ (by simp only [inv.dstsL, inv.putT, Nat.reduceAdd, List.set_cons_zero, List.set_cons_succ, h1, h2]; (try rfl)) (rfl) (rfl) (fun _ _ h => h)
          · simp only [inv.dstsL, inv.putT, Nat.reduceAdd, List.set_cons_zero, List.set_cons_succ]
            have h3 : (vs 3) = .pointer (some ⟨g1, o1 + j * 5, none⟩) := hD 3 (by kernel_rfl)
            subst hS
            rw [h3]
            go_simp
            exact hK _ _ _ (by simp only [inv.dstsL, inv.putT, Nat.reduceAdd, List.set_cons_zero, List.set_cons_succ, h3]; (try rfl)) (rfl) (rfl) (fun _ _ h => h)
          · simp only [inv.dstsL, inv.putT, Nat.reduceAdd, List.set_cons_zero, List.set_cons_succ]
            subst hS
            go_simp
            exact hK _ _ _ (by simp only [inv.dstsL, inv.putT, Nat.reduceAdd, List.set_cons_zero, List.set_cons_succ]; (try rfl)) (rfl) (rfl) (fun _ _ h => h)
          · simp only [inv.dstsL, inv.putT, Nat.reduceAdd, List.set_cons_zero, List.set_cons_succ]
            have h5 : (vs 5) = .pointer (some ⟨(w.heap.size + 1), 0, none⟩) := hD 5 (by kernel_rfl)
            subst hS
            rw [h5]
            go_simp
            exact hK _ _ _ (by simp only [inv.dstsL, inv.putT, Nat.reduceAdd, List.set_cons_zero, List.set_cons_succ, h5]; (try rfl)) (rfl) (rfl) (fun _ _ h => h)
          · simp only [inv.dstsL, inv.putT, Nat.reduceAdd, List.set_cons_zero, List.set_cons_succ]
            subst hS
            go_simp
            exact hK _ _ _ (by simp only [inv.dstsL, inv.putT, Nat.reduceAdd, List.set_cons_zero, List.set_cons_succ]; (try rfl)) (rfl) (rfl) (fun _ _ h => h)
          · simp only [inv.dstsL, inv.putT, Nat.reduceAdd, List.set_cons_zero, List.set_cons_succ]
            have h6 : (vs 6) = .slice (some ⟨g2, o2, none⟩) N c' := hD 6 (by kernel_rfl)
            have h7 : (vs 7) = .int .i64 (j : Int) := hD 7 (by kernel_rfl)
            subst hS
            rw [h6, h7]
            go_simp
            exact hK _ _ _ (by simp only [inv.dstsL, inv.putT, Nat.reduceAdd, List.set_cons_zero, List.set_cons_succ, h6, h7]; (try rfl)) (rfl) (rfl) (fun _ _ h => h)
          · simp only [inv.dstsL, inv.putT, Nat.reduceAdd, List.set_cons_zero, List.set_cons_succ]
            have h8 : (vs 8) = .pointer (some ⟨g2, o2 + j * 5, none⟩) := hD 8 (by kernel_rfl)
            subst hS
            rw [h8]
            go_simp
            exact hK _ _ _ (by simp only [inv.dstsL, inv.putT, Nat.reduceAdd, List.set_cons_zero, List.set_cons_succ, h8]; (try rfl)) (rfl) (rfl) (fun _ _ h => h)
          · simp only [inv.dstsL, inv.putT, Nat.reduceAdd, List.set_cons_zero, List.set_cons_succ]
            have h4 : (vs 4) = (.agg #[.string xn, .int .i64 xk, .int .i64 xa, .int .i64 xb, .int .i64 xo]) := hD 4 (by kernel_rfl)
            have h9 : (vs 9) = (.agg #[.string xn, .int .i64 xk, .int .i64 xa, .int .i64 xb, .int .i64 xo]) := hD 9 (by kernel_rfl)
            subst hS
            rw [h4, h9]
            go_simp
            exact hK _ _ _ (by simp only [inv.dstsL, inv.putT, Nat.reduceAdd, List.set_cons_zero, List.set_cons_succ, h4, h9]; (try rfl)) (rfl) (rfl) (fun _ _ h => h)
        case rest =>
          intro vs W done hdone hS hD
          have hb : (vs 10) = .bool false := hD 10 (by decide)
          subst hS
          simp only [inv.dstsL, inv.putT, Nat.reduceAdd, List.set_cons_zero, List.set_cons_succ]
          rw [hb]
          generalize vs 0 = y0, vs 1 = y1, vs 2 = y2, vs 3 = y3, vs 4 = y4, vs 5 = y5, vs 6 = y6, vs 7 = y7, vs 8 = y8, vs 9 = y9 at *
          clear hD hdone hb
          have BD := Lib.hid bel.out.drew
          go_wp2
          go_roundw
          case rel => exact ⟨j + 1, by omega, by go_num, BD, hnx⟩
          case measure => simp [intOf]; omega
      · have hr : r = false := by
          cases hq : r with
          | false => rfl
          | true => exact absurd (by have := HR.out.1 hq; subst this; rfl) e
        have HNE := Lib.hid (pn_ne e)
        subst hr
        generalize ps[j] = x at *
        generalize ps'[j] = y at *
        obtain ⟨xn, xk, xa, xb, xo⟩ := x
        obtain ⟨yn, yk, ya, yb, yo⟩ := y
        dsimp only at c0 c1 c2 c3 c4 d0 d1 d2 d3 d4 HNE
        clear hc1 hc2 hsame e
        go_wp2_with fail
        refine inv.wp_region_inv (fun _ W => W = wr.drew) (DEq5r w.heap.size (w.heap.size + 1) g1 o1 g2 o2 N c c' j (.agg #[.string xn, .int .i64 xk, .int .i64 xa, .int .i64 xb, .int .i64 xo]) (.agg #[.string yn, .int .i64 yk, .int .i64 ya, .int .i64 yb, .int .i64 yo]) true) (by kernel_rfl) (by kernel_rfl) (rfl) ?steps ?rest
        case steps =>
          refine ⟨fun vs W done hS hD hno K hK => ?_, fun vs W done hS hD hno K hK => ?_, fun vs W done hS hD hno K hK => ?_, fun vs W done hS hD hno K hK => ?_, fun vs W done hS hD hno K hK => ?_, fun vs W done hS hD hno K hK => ?_, fun vs W done hS hD hno K hK => ?_, fun vs W done hS hD hno K hK => ?_, fun vs W done hS hD hno K hK => ?_, fun vs W done hS hD hno K hK => ?_, fun vs W done hS hD hno K hK => ?_, trivial⟩
          · simp only [inv.dstsL, inv.putT, Nat.reduceAdd, List.set_cons_zero, List.set_cons_succ]
            subst hS
            go_simp
            exact hK _ _ _ (by simp only [inv.dstsL, inv.putT, Nat.reduceAdd, List.set_cons_zero, List.set_cons_succ]; (try rfl)) (rfl) (rfl) (fun _ _ h => h)
          · simp only [inv.dstsL, inv.putT, Nat.reduceAdd, List.set_cons_zero, List.set_cons_succ]
            have h0 : (vs 0) = .pointer (some ⟨w.heap.size, 0, none⟩) := hD 0 (by kernel_rfl)
            subst hS
            rw [h0]
            go_simp
            exact hK _ _ _ (by simp only [inv.dstsL, inv.putT, Nat.reduceAdd, List.set_cons_zero, List.set_cons_succ, h0]; (try rfl)) (rfl) (rfl) (fun _ _ h => h)
          · simp only [inv.dstsL, inv.putT, Nat.reduceAdd, List.set_cons_zero, List.set_cons_succ]
            subst hS
            go_simp
            exact hK _ _ _ (by simp only [inv.dstsL, inv.putT, Nat.reduceAdd, List.set_cons_zero, List.set_cons_succ]; (try rfl)) (rfl) (rfl) (fun _ _ h => h)
          · simp only [inv.dstsL, inv.putT, Nat.reduceAdd, List.set_cons_zero, List.set_cons_succ]
            have h1 : (vs 1) = .slice (some ⟨g1, o1, none⟩) N c := hD 1 (by kernel_rfl)
            have h2 : (vs 2) = .int .i64 (j : Int) := hD 2 (by kernel_rfl)
            subst hS
            rw [h1, h2]
            go_simp
            exact hK _ _ _ (by simp only [inv.dstsL, inv.putT, Nat.reduceAdd, List.set_cons_zero, List.set_cons_succ, h1, h2]; (try rfl)) (rfl) (rfl) (fun _ _ h => h)
          · simp only [inv.dstsL, inv.putT, Nat.reduceAdd, List.set_cons_zero, List.set_cons_succ]
            have h3 : (vs 3) = .pointer (some ⟨g1, o1 + j * 5, none⟩) := hD 3 (by kernel_rfl)
            subst hS
            rw [h3]
            go_simp
            exact hK _ _ _ (by simp only [inv.dstsL, inv.putT, Nat.reduceAdd, List.set_cons_zero, List.set_cons_succ, h3]; (try rfl)) (rfl) (rfl) (fun _ _ h => h)
          · simp only [inv.dstsL, inv.putT, Nat.reduceAdd, List.set_cons_zero, List.set_cons_succ]
            subst hS
            go_simp
            exact hK _ _ _ (by simp only [inv.dstsL, inv.putT, Nat.reduceAdd, List.set_cons_zero, List.set_cons_succ]; (try rfl)) (rfl) (rfl) (fun _ _ h => h)
          · simp only [inv.dstsL, inv.putT, Nat.reduceAdd, List.set_cons_zero, List.set_cons_succ]
            have h5 : (vs 5) = .pointer (some ⟨(w.heap.size + 1), 0, none⟩) := hD 5 (by kernel_rfl)
            subst hS
            rw [h5]
            go_simp
            exact hK _ _ _ (by simp only [inv.dstsL, inv.putT, Nat.reduceAdd, List.set_cons_zero, List.set_cons_succ, h5]; (try rfl)) (rfl) (rfl) (fun _ _ h => h)
          · simp only [inv.dstsL, inv.putT, Nat.reduceAdd, List.set_cons_zero, List.set_cons_succ]
            subst hS
            go_simp
            exact hK _ _ _ (by simp only [inv.dstsL, inv.putT, Nat.reduceAdd, List.set_cons_zero, List.set_cons_succ]; (try rfl)) (rfl) (rfl) (fun _ _ h => h)
          · simp only [inv.dstsL, inv.putT, Nat.reduceAdd, List.set_cons_zero, List.set_cons_succ]
            have h6 : (vs 6) = .slice (some ⟨g2, o2, none⟩) N c' := hD 6 (by kernel_rfl)
            have h7 : (vs 7) = .int .i64 (j : Int) := hD 7 (by kernel_rfl)
            subst hS
            rw [h6, h7]
            go_simp
            exact hK _ _ _ (by simp only [inv.dstsL, inv.putT, Nat.reduceAdd, List.set_cons_zero, List.set_cons_succ, h6, h7]; (try rfl)) (rfl) (rfl) (fun _ _ h => h)
          · simp only [inv.dstsL, inv.putT, Nat.reduceAdd, List.set_cons_zero, List.set_cons_succ]
            have h8 : (vs 8) = .pointer (some ⟨g2, o2 + j * 5, none⟩) := hD 8 (by kernel_rfl)
            subst hS
            rw [h8]
            go_simp
            exact hK _ _ _ (by simp only [inv.dstsL, inv.putT, Nat.reduceAdd, List.set_cons_zero, List.set_cons_succ, h8]; (try rfl)) (rfl) (rfl) (fun _ _ h => h)
          · simp only [inv.dstsL, inv.putT, Nat.reduceAdd, List.set_cons_zero, List.set_cons_succ]
            have h4 : (vs 4) = (.agg #[.string xn, .int .i64 xk, .int .i64 xa, .int .i64 xb, .int .i64 xo]) := hD 4 (by kernel_rfl)
            have h9 : (vs 9) = (.agg #[.string yn, .int .i64 yk, .int .i64 ya, .int .i64 yb, .int .i64 yo]) := hD 9 (by kernel_rfl)
            subst hS
            rw [h4, h9]
            go_simp
            rw [ifs5 HNE.out]; go_simp
            exact hK _ _ _ (by simp only [inv.dstsL, inv.putT, Nat.reduceAdd, List.set_cons_zero, List.set_cons_succ, h4, h9]; (try rfl)) (rfl) (rfl) (fun _ _ h => h)
        case rest =>
          intro vs W done hdone hS hD
          have hb : (vs 10) = .bool true := hD 10 (by decide)
          subst hS
          simp only [inv.dstsL, inv.putT, Nat.reduceAdd, List.set_cons_zero, List.set_cons_succ]
          rw [hb]
          generalize vs 0 = y0, vs 1 = y1, vs 2 = y2, vs 3 = y3, vs 4 = y4, vs 5 = y5, vs 6 = y6, vs 7 = y7, vs 8 = y8, vs 9 = y9 at *
          clear hD hdone hb
          have BD := Lib.hid BL.out.drew
          go_wp2
          go_ret
          exact ⟨rfl, BD.out⟩
    · obtain rfl : N = j := by omega
      have hall : Hid (ps = ps') := same_upto (N1L.out.trans N2L.out.symm) (fun i h k => hsame.out i h k (by rw [← N1L.out]; exact h))
      clear hsame
      have hrt : r = true := HR.out.2 hall.out
      subst hrt
      obtain ⟨q0, -⟩ := NT1.out.below bel.out (by omega)
      go_wp2
      go_ret
      exact ⟨rfl, BL.out⟩
set_option maxRecDepth 100000 in
theorem rsame_is (a a' : Option Addr) (N c N' c' : Nat) (ps ps' : List Pn) (r : Bool) (w : World) (h : RegIn w a N c ps) (h' : RegIn w a' N' c' ps') (hr : r = true ↔ ps = ps') :
    Calls Tryz.prog 14 #[.agg #[.slice a N c], .agg #[.slice a' N' c']] w fun e w' => e = .returned (.bool r) ∧ Below w.heap.size w w' := by
  by_cases hn : N = N'
  · obtain rfl := hn
    exact rsame_len a a' N c c' ps ps' r w h h' hr
  · have e : r = false := by
      cases hq : r with
      | false => rfl
      | true =>
        have e1 := hr.1 hq
        subst e1
        exact absurd (h.len.symm.trans h'.len) hn
    subst e
    have bx1 := below_box w (.cells #[.slice a N c] 25)
    have bx2 := below_box (w.alloc (.cells #[.slice a N c] 25)) (.cells #[.slice a' N' c'] 25)
    have BX := Lib.hid (bx1.trans (bx2.mono bx1.size))
    obtain ⟨q0, -⟩ := ((OneAt.new w (.slice a N c) 25).alloc (.cells #[.slice a' N' c'] 25))
    have nt2 := OneAt.new (w.alloc (.cells #[.slice a N c] 25)) (.slice a' N' c') 25
    rw [World.size_alloc] at nt2
    obtain ⟨q2, -⟩ := nt2
    have k2 : ((N : Int) != N') = true := by rw [bne_iff_ne]; omega
    clear bx1 bx2 h h' hr hn
    go_enter Tryz.func14, Tryz.ntmps14
    go_wp2
    go_ret
    exact ⟨rfl, BX.out⟩
end Go.Proofs.YthdjpmiohfaphaaGreatDoor.reg
