/- The walks of Same: the program's, the library's Equal at nodes and devices, the reference's. Condition of the program's: the table 'classes' holds what its text lays. -/
import Derived.Test.YtdgllaiejhnjmaaDoorNetQ
import Derived.Test.YtdgllaiejhnjmaaDoorMdM
import Derived.Test.YtdgllaiejhnjmaaDoorInv
namespace Go.Proofs.YtdgllaiejhnjmaaDoor.mod
open Go.RowKit lex net aggs kit deck

theorem toList_inj {x y : ByteArray} (h : x.toList = y.toList) : x = y := by
  rw [Lib.toList_data, Lib.toList_data] at h
  cases x; cases y; simp at h; simp [h]
theorem ifs3 {α : Type} {p q r : Prop} [Decidable p] [Decidable q] [Decidable r] {a b : α} (h : ¬ (p ∧ q ∧ r)) : (if p then if q then if r then a else b else b else b) = b := by
  by_cases h1 : p
  · rw [if_pos h1]
    by_cases h2 : q
    · rw [if_pos h2, if_neg (fun h3 => h ⟨h1, h2, h3⟩)]
    · rw [if_neg h2]
  · rw [if_neg h1]
theorem ifs5 {α : Type} {p q r s t : Prop} [Decidable p] [Decidable q] [Decidable r] [Decidable s] [Decidable t] {a b : α} (h : ¬ (p ∧ q ∧ r ∧ s ∧ t)) : (if p then if q then if r then if s then if t then a else b else b else b else b else b) = b := by
  by_cases h1 : p
  · rw [if_pos h1]
    by_cases h2 : q
    · rw [if_pos h2]
      exact ifs3 (fun h3 => h ⟨h1, h2, h3⟩)
    · rw [if_neg h2]
  · rw [if_neg h1]
theorem nd_ne {x y : Nd} (h : x ≠ y) : ¬ (x.nm.toList = y.nm.toList ∧ x.cu = y.cu ∧ x.co = y.co) := fun ⟨h1, h2, h3⟩ => h (by cases x; cases y; simp only at h1 h2 h3; rw [toList_inj h1, h2, h3])
theorem dv_ne {x y : Dv} (h : x ≠ y) : ¬ (x.nm.toList = y.nm.toList ∧ x.ki = y.ki ∧ x.a = y.a ∧ x.b = y.b ∧ x.co = y.co) := fun ⟨h1, h2, h3, h4, h5⟩ => h (by cases x; cases y; simp only at h1 h2 h3 h4 h5; rw [toList_inj h1, h2, h3, h4, h5])
theorem same_upto {α : Type} {xs ys : List α} (hl : xs.length = ys.length) (h : ∀ i (h : i < xs.length) (k : i < ys.length), xs[i] = ys[i]) : xs = ys := List.ext_getElem hl (fun i h1 h2 => h i h1 h2)
def DEq3 (g1 o1 g2 o2 N c d j : Nat) (x y : Value) (b : Bool) : Nat → Value → World → Prop
  | 0, v, _ => v = .slice (some ⟨g1, o1, none⟩) N c
  | 1, v, _ => v = .int .i64 (j : Int)
  | 2, v, _ => v = .pointer (some ⟨g1, o1 + j * 3, none⟩)
  | 3, v, _ => v = x
  | 4, v, _ => v = .slice (some ⟨g2, o2, none⟩) N d
  | 5, v, _ => v = .int .i64 (j : Int)
  | 6, v, _ => v = .pointer (some ⟨g2, o2 + j * 3, none⟩)
  | 7, v, _ => v = y
  | 8, v, _ => v = .bool b
  | _, _, _ => True
set_option maxRecDepth 100000 in
set_option maxHeartbeats 2000000 in
theorem equalN_is (a b : Option Addr) (N M c d : Nat) (xs ys : List Nd) (r : Bool) (w : World) (hx : xs.length = N) (hy : ys.length = M) (h1 : RIn encNd 3 w a xs) (h2 : RIn encNd 3 w b ys) (hl : N ≤ maxLen) (hl2 : M ≤ maxLen) (hr : r = true ↔ xs = ys) :
    Calls Tryd.prog 30 #[.slice a N c, .slice b M d] w fun e w' => e = .returned (.bool r) ∧ Below w.heap.size w w' := by
  unfold maxLen at hl hl2
  by_cases hNM : N = M
  · subst hNM
    have H1L := Lib.hid hx
    have H2L := Lib.hid hy
    have H1 := Lib.hid h1
    have H2 := Lib.hid h2
    have HR := Lib.hid hr
    clear hx hy h1 h2 hr
    go_enter Tryd.func30, Tryd.ntmps30
    go_wp2_with fail
    go_loopw [13] (fun iv wr => ∃ j : Nat, j ≤ N ∧ iv = .int .i64 j ∧ Hid (Below w.heap.size w wr) ∧ Hid (∀ i (h : i < xs.length) (k : i < ys.length), i < j → xs[i] = ys[i])) (fun iv _ => N - (intOf iv).toNat)
    case atStart => exact ⟨0, Nat.zero_le _, rfl, Below.refl _ _, fun i _ _ h => by cases h⟩
    case round =>
      obtain ⟨j, hj, rfl, bel, hsame⟩ := hrel
      have BL := Lib.hid (bel.out)
      by_cases hjn : j < N
      · have hjx : j < xs.length := by rw [H1L.out]; exact hjn
        have hjy : j < ys.length := by rw [H2L.out]; exact hjn
        obtain ⟨g1, o1, rfl, -, hc1⟩ := (H1.out.below BL.out).some (by omega)
        obtain ⟨g2, o2, rfl, -, hc2⟩ := (H2.out.below BL.out).some (by omega)
        obtain ⟨c0, c1, c2⟩ := cells_nd hc1 j hjx
        obtain ⟨d0, d1, d2⟩ := cells_nd hc2 j hjy
        by_cases e : xs[j] = ys[j]
        · have hnx : Hid (∀ i (h : i < xs.length) (k : i < ys.length), i < j + 1 → xs[i] = ys[i]) := fun i h k hi => by
            by_cases q : i = j
            · subst q; exact e
            · exact hsame.out i h k (by omega)
          rw [← e] at d0 d1 d2
          generalize xs[j] = x at *
          obtain ⟨xn, xc, xo⟩ := x
          dsimp only at c0 c1 c2 d0 d1 d2
          clear hc1 hc2 hsame e
          go_wp2_with fail
          refine inv.wp_region_inv (fun _ W => W = wr.drew) (DEq3 g1 o1 g2 o2 N c d j (.agg #[.string xn, .int .i64 xc, .int .i64 xo]) (.agg #[.string xn, .int .i64 xc, .int .i64 xo]) false) (by kernel_rfl) (by kernel_rfl) (rfl) ?steps ?rest
          case steps =>
            refine ⟨fun vs W done hS hD hno K hK => ?_, fun vs W done hS hD hno K hK => ?_, fun vs W done hS hD hno K hK => ?_, fun vs W done hS hD hno K hK => ?_, fun vs W done hS hD hno K hK => ?_, fun vs W done hS hD hno K hK => ?_, fun vs W done hS hD hno K hK => ?_, fun vs W done hS hD hno K hK => ?_, fun vs W done hS hD hno K hK => ?_, trivial⟩
            · simp only [inv.dstsL, inv.putT, Nat.reduceAdd, List.set_cons_zero, List.set_cons_succ]
              subst hS
              go_simp
              exact hK _ _ _ (by simp only [inv.dstsL, inv.putT, Nat.reduceAdd, List.set_cons_zero, List.set_cons_succ]; (try rfl)) (rfl) (rfl) (fun _ _ h => h)
            · simp only [inv.dstsL, inv.putT, Nat.reduceAdd, List.set_cons_zero, List.set_cons_succ]
              subst hS
              go_simp
              exact hK _ _ _ (by simp only [inv.dstsL, inv.putT, Nat.reduceAdd, List.set_cons_zero, List.set_cons_succ]; (try rfl)) (rfl) (rfl) (fun _ _ h => h)
            · simp only [inv.dstsL, inv.putT, Nat.reduceAdd, List.set_cons_zero, List.set_cons_succ]
              have h0 : (vs 0) = .slice (some ⟨g1, o1, none⟩) N c := hD 0 (by kernel_rfl)
              have h1 : (vs 1) = .int .i64 (j : Int) := hD 1 (by kernel_rfl)
              subst hS
              rw [h0, h1]
              go_simp
              exact hK _ _ _ (by simp only [inv.dstsL, inv.putT, Nat.reduceAdd, List.set_cons_zero, List.set_cons_succ, h0, h1]; (try rfl)) (rfl) (rfl) (fun _ _ h => h)
            · simp only [inv.dstsL, inv.putT, Nat.reduceAdd, List.set_cons_zero, List.set_cons_succ]
              have h2 : (vs 2) = .pointer (some ⟨g1, o1 + j * 3, none⟩) := hD 2 (by kernel_rfl)
              subst hS
              rw [h2]
              go_simp
              exact hK _ _ _ (by simp only [inv.dstsL, inv.putT, Nat.reduceAdd, List.set_cons_zero, List.set_cons_succ, h2]; (try rfl)) (rfl) (rfl) (fun _ _ h => h)
            · simp only [inv.dstsL, inv.putT, Nat.reduceAdd, List.set_cons_zero, List.set_cons_succ]
              subst hS
              go_simp
              exact hK _ _ _ (by simp only [inv.dstsL, inv.putT, Nat.reduceAdd, List.set_cons_zero, List.set_cons_succ]; (try rfl)) (rfl) (rfl) (fun _ _ h => h)
            · simp only [inv.dstsL, inv.putT, Nat.reduceAdd, List.set_cons_zero, List.set_cons_succ]
              subst hS
              go_simp
              exact hK _ _ _ (by simp only [inv.dstsL, inv.putT, Nat.reduceAdd, List.set_cons_zero, List.set_cons_succ]; (try rfl)) (rfl) (rfl) (fun _ _ h => h)
            · simp only [inv.dstsL, inv.putT, Nat.reduceAdd, List.set_cons_zero, List.set_cons_succ]
              have h4 : (vs 4) = .slice (some ⟨g2, o2, none⟩) N d := hD 4 (by kernel_rfl)
              have h5 : (vs 5) = .int .i64 (j : Int) := hD 5 (by kernel_rfl)
              subst hS
              rw [h4, h5]
              go_simp
              exact hK _ _ _ (by simp only [inv.dstsL, inv.putT, Nat.reduceAdd, List.set_cons_zero, List.set_cons_succ, h4, h5]; (try rfl)) (rfl) (rfl) (fun _ _ h => h)
            · simp only [inv.dstsL, inv.putT, Nat.reduceAdd, List.set_cons_zero, List.set_cons_succ]
              have h6 : (vs 6) = .pointer (some ⟨g2, o2 + j * 3, none⟩) := hD 6 (by kernel_rfl)
              subst hS
              rw [h6]
              go_simp
              exact hK _ _ _ (by simp only [inv.dstsL, inv.putT, Nat.reduceAdd, List.set_cons_zero, List.set_cons_succ, h6]; (try rfl)) (rfl) (rfl) (fun _ _ h => h)
            · simp only [inv.dstsL, inv.putT, Nat.reduceAdd, List.set_cons_zero, List.set_cons_succ]
              have h3 : (vs 3) = (.agg #[.string xn, .int .i64 xc, .int .i64 xo]) := hD 3 (by kernel_rfl)
              have h7 : (vs 7) = (.agg #[.string xn, .int .i64 xc, .int .i64 xo]) := hD 7 (by kernel_rfl)
              subst hS
              rw [h3, h7]
              go_simp
              exact hK _ _ _ (by simp only [inv.dstsL, inv.putT, Nat.reduceAdd, List.set_cons_zero, List.set_cons_succ, h3, h7]; (try rfl)) (rfl) (rfl) (fun _ _ h => h)
          case rest =>
            intro vs W done hdone hS hD
            have hb : (vs 8) = .bool false := hD 8 (by decide)
            subst hS
            simp only [inv.dstsL, inv.putT, Nat.reduceAdd, List.set_cons_zero, List.set_cons_succ]
            rw [hb]
            generalize vs 0 = y0, vs 1 = y1, vs 2 = y2, vs 3 = y3, vs 4 = y4, vs 5 = y5, vs 6 = y6, vs 7 = y7 at *
            clear hD hdone hb
            have BD := Lib.hid bel.out.drew
            go_wp2
            go_roundw
            case rel => exact ⟨j + 1, by omega, by go_num, BD, hnx⟩
            case measure => simp [intOf]; omega
        · have hr : r = false := by
            cases hq : r with
            | false => rfl
            | true => exact absurd (by have := (HR.out.1 hq); subst this; rfl) e
          have HNE := Lib.hid (nd_ne e)
          subst hr
          generalize xs[j] = x at *
          generalize ys[j] = y at *
          obtain ⟨xn, xc, xo⟩ := x
          obtain ⟨yn, yc, yo⟩ := y
          dsimp only at c0 c1 c2 d0 d1 d2 HNE
          clear hc1 hc2 hsame e
          go_wp2_with fail
          refine inv.wp_region_inv (fun _ W => W = wr.drew) (DEq3 g1 o1 g2 o2 N c d j (.agg #[.string xn, .int .i64 xc, .int .i64 xo]) (.agg #[.string yn, .int .i64 yc, .int .i64 yo]) true) (by kernel_rfl) (by kernel_rfl) (rfl) ?steps ?rest
          case steps =>
            refine ⟨fun vs W done hS hD hno K hK => ?_, fun vs W done hS hD hno K hK => ?_, fun vs W done hS hD hno K hK => ?_, fun vs W done hS hD hno K hK => ?_, fun vs W done hS hD hno K hK => ?_, fun vs W done hS hD hno K hK => ?_, fun vs W done hS hD hno K hK => ?_, fun vs W done hS hD hno K hK => ?_, fun vs W done hS hD hno K hK => ?_, trivial⟩
            · simp only [inv.dstsL, inv.putT, Nat.reduceAdd, List.set_cons_zero, List.set_cons_succ]
              subst hS
              go_simp
              exact hK _ _ _ (by simp only [inv.dstsL, inv.putT, Nat.reduceAdd, List.set_cons_zero, List.set_cons_succ]; (try rfl)) (rfl) (rfl) (fun _ _ h => h)
            · simp only [inv.dstsL, inv.putT, Nat.reduceAdd, List.set_cons_zero, List.set_cons_succ]
              subst hS
              go_simp
              exact hK _ _ _ (by simp only [inv.dstsL, inv.putT, Nat.reduceAdd, List.set_cons_zero, List.set_cons_succ]; (try rfl)) (rfl) (rfl) (fun _ _ h => h)
            · simp only [inv.dstsL, inv.putT, Nat.reduceAdd, List.set_cons_zero, List.set_cons_succ]
              have h0 : (vs 0) = .slice (some ⟨g1, o1, none⟩) N c := hD 0 (by kernel_rfl)
              have h1 : (vs 1) = .int .i64 (j : Int) := hD 1 (by kernel_rfl)
              subst hS
              rw [h0, h1]
              go_simp
              exact hK _ _ _ (by simp only [inv.dstsL, inv.putT, Nat.reduceAdd, List.set_cons_zero, List.set_cons_succ, h0, h1]; (try rfl)) (rfl) (rfl) (fun _ _ h => h)
            · simp only [inv.dstsL, inv.putT, Nat.reduceAdd, List.set_cons_zero, List.set_cons_succ]
              have h2 : (vs 2) = .pointer (some ⟨g1, o1 + j * 3, none⟩) := hD 2 (by kernel_rfl)
              subst hS
              rw [h2]
              go_simp
              exact hK _ _ _ (by simp only [inv.dstsL, inv.putT, Nat.reduceAdd, List.set_cons_zero, List.set_cons_succ, h2]; (try rfl)) (rfl) (rfl) (fun _ _ h => h)
            · simp only [inv.dstsL, inv.putT, Nat.reduceAdd, List.set_cons_zero, List.set_cons_succ]
              subst hS
              go_simp
              exact hK _ _ _ (by simp only [inv.dstsL, inv.putT, Nat.reduceAdd, List.set_cons_zero, List.set_cons_succ]; (try rfl)) (rfl) (rfl) (fun _ _ h => h)
            · simp only [inv.dstsL, inv.putT, Nat.reduceAdd, List.set_cons_zero, List.set_cons_succ]
              subst hS
              go_simp
              exact hK _ _ _ (by simp only [inv.dstsL, inv.putT, Nat.reduceAdd, List.set_cons_zero, List.set_cons_succ]; (try rfl)) (rfl) (rfl) (fun _ _ h => h)
            · simp only [inv.dstsL, inv.putT, Nat.reduceAdd, List.set_cons_zero, List.set_cons_succ]
              have h4 : (vs 4) = .slice (some ⟨g2, o2, none⟩) N d := hD 4 (by kernel_rfl)
              have h5 : (vs 5) = .int .i64 (j : Int) := hD 5 (by kernel_rfl)
              subst hS
              rw [h4, h5]
              go_simp
              exact hK _ _ _ (by simp only [inv.dstsL, inv.putT, Nat.reduceAdd, List.set_cons_zero, List.set_cons_succ, h4, h5]; (try rfl)) (rfl) (rfl) (fun _ _ h => h)
            · simp only [inv.dstsL, inv.putT, Nat.reduceAdd, List.set_cons_zero, List.set_cons_succ]
              have h6 : (vs 6) = .pointer (some ⟨g2, o2 + j * 3, none⟩) := hD 6 (by kernel_rfl)
              subst hS
              rw [h6]
              go_simp
              exact hK _ _ _ (by simp only [inv.dstsL, inv.putT, Nat.reduceAdd, List.set_cons_zero, List.set_cons_succ, h6]; (try rfl)) (rfl) (rfl) (fun _ _ h => h)
            · simp only [inv.dstsL, inv.putT, Nat.reduceAdd, List.set_cons_zero, List.set_cons_succ]
              have h3 : (vs 3) = (.agg #[.string xn, .int .i64 xc, .int .i64 xo]) := hD 3 (by kernel_rfl)
              have h7 : (vs 7) = (.agg #[.string yn, .int .i64 yc, .int .i64 yo]) := hD 7 (by kernel_rfl)
              subst hS
              rw [h3, h7]
              go_simp
              rw [ifs3 HNE.out]; go_simp
              exact hK _ _ _ (by simp only [inv.dstsL, inv.putT, Nat.reduceAdd, List.set_cons_zero, List.set_cons_succ, h3, h7]; (try rfl)) (rfl) (rfl) (fun _ _ h => h)
          case rest =>
            intro vs W done hdone hS hD
            have hb : (vs 8) = .bool true := hD 8 (by decide)
            subst hS
            simp only [inv.dstsL, inv.putT, Nat.reduceAdd, List.set_cons_zero, List.set_cons_succ]
            rw [hb]
            generalize vs 0 = y0, vs 1 = y1, vs 2 = y2, vs 3 = y3, vs 4 = y4, vs 5 = y5, vs 6 = y6, vs 7 = y7 at *
            clear hD hdone hb
            have BD := Lib.hid BL.out.drew
            go_wp2
            go_ret
            exact ⟨rfl, BD.out⟩
      · obtain rfl : N = j := by omega
        have hall : Hid (xs = ys) := same_upto (H1L.out.trans H2L.out.symm) (fun i h k => hsame.out i h k (by rw [← H1L.out]; exact h))
        clear hsame
        have hr : r = true := HR.out.2 hall.out
        subst hr
        go_wp2
        go_ret
        exact ⟨rfl, BL.out⟩
  · have e : r = false := by
      cases hq : r with
      | false => rfl
      | true => exact absurd (by have := hr.1 hq; subst this; exact hx.symm.trans hy) hNM
    subst e
    have T : ((N : Int) != M) = true := by rw [bne_iff_ne]; omega
    clear hx hy h1 h2 hr
    go_enter Tryd.func30, Tryd.ntmps30
    go_wp2
    go_ret
    exact ⟨rfl, Below.refl _ _⟩
def DEq5 (g1 o1 g2 o2 N c d j : Nat) (x y : Value) (b : Bool) : Nat → Value → World → Prop
  | 0, v, _ => v = .slice (some ⟨g1, o1, none⟩) N c
  | 1, v, _ => v = .int .i64 (j : Int)
  | 2, v, _ => v = .pointer (some ⟨g1, o1 + j * 5, none⟩)
  | 3, v, _ => v = x
  | 4, v, _ => v = .slice (some ⟨g2, o2, none⟩) N d
  | 5, v, _ => v = .int .i64 (j : Int)
  | 6, v, _ => v = .pointer (some ⟨g2, o2 + j * 5, none⟩)
  | 7, v, _ => v = y
  | 8, v, _ => v = .bool b
  | _, _, _ => True
set_option maxRecDepth 100000 in
set_option maxHeartbeats 2000000 in
theorem equalD_is (a b : Option Addr) (N M c d : Nat) (xs ys : List Dv) (r : Bool) (w : World) (hx : xs.length = N) (hy : ys.length = M) (h1 : RIn encDv 5 w a xs) (h2 : RIn encDv 5 w b ys) (hl : N ≤ maxLen) (hl2 : M ≤ maxLen) (hr : r = true ↔ xs = ys) :
    Calls Tryd.prog 31 #[.slice a N c, .slice b M d] w fun e w' => e = .returned (.bool r) ∧ Below w.heap.size w w' := by
  unfold maxLen at hl hl2
  by_cases hNM : N = M
  · subst hNM
    have H1L := Lib.hid hx
    have H2L := Lib.hid hy
    have H1 := Lib.hid h1
    have H2 := Lib.hid h2
    have HR := Lib.hid hr
    clear hx hy h1 h2 hr
    go_enter Tryd.func31, Tryd.ntmps31
    go_wp2_with fail
    go_loopw [13] (fun iv wr => ∃ j : Nat, j ≤ N ∧ iv = .int .i64 j ∧ Hid (Below w.heap.size w wr) ∧ Hid (∀ i (h : i < xs.length) (k : i < ys.length), i < j → xs[i] = ys[i])) (fun iv _ => N - (intOf iv).toNat)
    case atStart => exact ⟨0, Nat.zero_le _, rfl, Below.refl _ _, fun i _ _ h => by cases h⟩
    case round =>
      obtain ⟨j, hj, rfl, bel, hsame⟩ := hrel
      have BL := Lib.hid (bel.out)
      by_cases hjn : j < N
      · have hjx : j < xs.length := by rw [H1L.out]; exact hjn
        have hjy : j < ys.length := by rw [H2L.out]; exact hjn
        obtain ⟨g1, o1, rfl, -, hc1⟩ := (H1.out.below BL.out).some (by omega)
        obtain ⟨g2, o2, rfl, -, hc2⟩ := (H2.out.below BL.out).some (by omega)
        obtain ⟨c0, c1, c2, c3, c4⟩ := cells_dv hc1 j hjx
        obtain ⟨d0, d1, d2, d3, d4⟩ := cells_dv hc2 j hjy
        by_cases e : xs[j] = ys[j]
        · have hnx : Hid (∀ i (h : i < xs.length) (k : i < ys.length), i < j + 1 → xs[i] = ys[i]) := fun i h k hi => by
            by_cases q : i = j
            · subst q; exact e
            · exact hsame.out i h k (by omega)
          rw [← e] at d0 d1 d2 d3 d4
          generalize xs[j] = x at *
          obtain ⟨xn, xk, xa, xb, xo⟩ := x
          dsimp only at c0 c1 c2 c3 c4 d0 d1 d2 d3 d4
          clear hc1 hc2 hsame e
          go_wp2_with fail
          refine inv.wp_region_inv (fun _ W => W = wr.drew) (DEq5 g1 o1 g2 o2 N c d j (.agg #[.string xn, .int .i64 xk, .int .i64 xa, .int .i64 xb, .int .i64 xo]) (.agg #[.string xn, .int .i64 xk, .int .i64 xa, .int .i64 xb, .int .i64 xo]) false) (by kernel_rfl) (by kernel_rfl) (rfl) ?steps ?rest
          case steps =>
            refine ⟨fun vs W done hS hD hno K hK => ?_, fun vs W done hS hD hno K hK => ?_, fun vs W done hS hD hno K hK => ?_, fun vs W done hS hD hno K hK => ?_, fun vs W done hS hD hno K hK => ?_, fun vs W done hS hD hno K hK => ?_, fun vs W done hS hD hno K hK => ?_, fun vs W done hS hD hno K hK => ?_, fun vs W done hS hD hno K hK => ?_, trivial⟩
            · simp only [inv.dstsL, inv.putT, Nat.reduceAdd, List.set_cons_zero, List.set_cons_succ]
              subst hS
              go_simp
              exact hK _ _ _ (by simp only [inv.dstsL, inv.putT, Nat.reduceAdd, List.set_cons_zero, List.set_cons_succ]; (try rfl)) (rfl) (rfl) (fun _ _ h => h)
            · simp only [inv.dstsL, inv.putT, Nat.reduceAdd, List.set_cons_zero, List.set_cons_succ]
              subst hS
              go_simp
              exact hK _ _ _ (by simp only [inv.dstsL, inv.putT, Nat.reduceAdd, List.set_cons_zero, List.set_cons_succ]; (try rfl)) (rfl) (rfl) (fun _ _ h => h)
            · simp only [inv.dstsL, inv.putT, Nat.reduceAdd, List.set_cons_zero, List.set_cons_succ]
              have h0 : (vs 0) = .slice (some ⟨g1, o1, none⟩) N c := hD 0 (by kernel_rfl)
              have h1 : (vs 1) = .int .i64 (j : Int) := hD 1 (by kernel_rfl)
              subst hS
              rw [h0, h1]
              go_simp
              exact hK _ _ _ (by simp only [inv.dstsL, inv.putT, Nat.reduceAdd, List.set_cons_zero, List.set_cons_succ, h0, h1]; (try rfl)) (rfl) (rfl) (fun _ _ h => h)
            · simp only [inv.dstsL, inv.putT, Nat.reduceAdd, List.set_cons_zero, List.set_cons_succ]
              have h2 : (vs 2) = .pointer (some ⟨g1, o1 + j * 5, none⟩) := hD 2 (by kernel_rfl)
              subst hS
              rw [h2]
              go_simp
              exact hK _ _ _ (by simp only [inv.dstsL, inv.putT, Nat.reduceAdd, List.set_cons_zero, List.set_cons_succ, h2]; (try rfl)) (rfl) (rfl) (fun _ _ h => h)
            · simp only [inv.dstsL, inv.putT, Nat.reduceAdd, List.set_cons_zero, List.set_cons_succ]
              subst hS
              go_simp
              exact hK _ _ _ (by simp only [inv.dstsL, inv.putT, Nat.reduceAdd, List.set_cons_zero, List.set_cons_succ]; (try rfl)) (rfl) (rfl) (fun _ _ h => h)
            · simp only [inv.dstsL, inv.putT, Nat.reduceAdd, List.set_cons_zero, List.set_cons_succ]
              subst hS
              go_simp
              exact hK _ _ _ (by simp only [inv.dstsL, inv.putT, Nat.reduceAdd, List.set_cons_zero, List.set_cons_succ]; (try rfl)) (rfl) (rfl) (fun _ _ h => h)
            · simp only [inv.dstsL, inv.putT, Nat.reduceAdd, List.set_cons_zero, List.set_cons_succ]
              have h4 : (vs 4) = .slice (some ⟨g2, o2, none⟩) N d := hD 4 (by kernel_rfl)
              have h5 : (vs 5) = .int .i64 (j : Int) := hD 5 (by kernel_rfl)
              subst hS
              rw [h4, h5]
              go_simp
              exact hK _ _ _ (by simp only [inv.dstsL, inv.putT, Nat.reduceAdd, List.set_cons_zero, List.set_cons_succ, h4, h5]; (try rfl)) (rfl) (rfl) (fun _ _ h => h)
            · simp only [inv.dstsL, inv.putT, Nat.reduceAdd, List.set_cons_zero, List.set_cons_succ]
              have h6 : (vs 6) = .pointer (some ⟨g2, o2 + j * 5, none⟩) := hD 6 (by kernel_rfl)
              subst hS
              rw [h6]
              go_simp
              exact hK _ _ _ (by simp only [inv.dstsL, inv.putT, Nat.reduceAdd, List.set_cons_zero, List.set_cons_succ, h6]; (try rfl)) (rfl) (rfl) (fun _ _ h => h)
            · simp only [inv.dstsL, inv.putT, Nat.reduceAdd, List.set_cons_zero, List.set_cons_succ]
              have h3 : (vs 3) = (.agg #[.string xn, .int .i64 xk, .int .i64 xa, .int .i64 xb, .int .i64 xo]) := hD 3 (by kernel_rfl)
              have h7 : (vs 7) = (.agg #[.string xn, .int .i64 xk, .int .i64 xa, .int .i64 xb, .int .i64 xo]) := hD 7 (by kernel_rfl)
              subst hS
              rw [h3, h7]
              go_simp
              exact hK _ _ _ (by simp only [inv.dstsL, inv.putT, Nat.reduceAdd, List.set_cons_zero, List.set_cons_succ, h3, h7]; (try rfl)) (rfl) (rfl) (fun _ _ h => h)
          case rest =>
            intro vs W done hdone hS hD
            have hb : (vs 8) = .bool false := hD 8 (by decide)
            subst hS
            simp only [inv.dstsL, inv.putT, Nat.reduceAdd, List.set_cons_zero, List.set_cons_succ]
            rw [hb]
            generalize vs 0 = y0, vs 1 = y1, vs 2 = y2, vs 3 = y3, vs 4 = y4, vs 5 = y5, vs 6 = y6, vs 7 = y7 at *
            clear hD hdone hb
            have BD := Lib.hid bel.out.drew
            go_wp2
            go_roundw
            case rel => exact ⟨j + 1, by omega, by go_num, BD, hnx⟩
            case measure => simp [intOf]; omega
        · have hr : r = false := by
            cases hq : r with
            | false => rfl
            | true => exact absurd (by have := (HR.out.1 hq); subst this; rfl) e
          have HNE := Lib.hid (dv_ne e)
          subst hr
          generalize xs[j] = x at *
          generalize ys[j] = y at *
          obtain ⟨xn, xk, xa, xb, xo⟩ := x
          obtain ⟨yn, yk, ya, yb, yo⟩ := y
          dsimp only at c0 c1 c2 c3 c4 d0 d1 d2 d3 d4 HNE
          clear hc1 hc2 hsame e
          go_wp2_with fail
          refine inv.wp_region_inv (fun _ W => W = wr.drew) (DEq5 g1 o1 g2 o2 N c d j (.agg #[.string xn, .int .i64 xk, .int .i64 xa, .int .i64 xb, .int .i64 xo]) (.agg #[.string yn, .int .i64 yk, .int .i64 ya, .int .i64 yb, .int .i64 yo]) true) (by kernel_rfl) (by kernel_rfl) (rfl) ?steps ?rest
          case steps =>
            refine ⟨fun vs W done hS hD hno K hK => ?_, fun vs W done hS hD hno K hK => ?_, fun vs W done hS hD hno K hK => ?_, fun vs W done hS hD hno K hK => ?_, fun vs W done hS hD hno K hK => ?_, fun vs W done hS hD hno K hK => ?_, fun vs W done hS hD hno K hK => ?_, fun vs W done hS hD hno K hK => ?_, fun vs W done hS hD hno K hK => ?_, trivial⟩
            · simp only [inv.dstsL, inv.putT, Nat.reduceAdd, List.set_cons_zero, List.set_cons_succ]
              subst hS
              go_simp
              exact hK _ _ _ (by simp only [inv.dstsL, inv.putT, Nat.reduceAdd, List.set_cons_zero, List.set_cons_succ]; (try rfl)) (rfl) (rfl) (fun _ _ h => h)
            · simp only [inv.dstsL, inv.putT, Nat.reduceAdd, List.set_cons_zero, List.set_cons_succ]
              subst hS
              go_simp
              exact hK _ _ _ (by simp only [inv.dstsL, inv.putT, Nat.reduceAdd, List.set_cons_zero, List.set_cons_succ]; (try rfl)) (rfl) (rfl) (fun _ _ h => h)
            · simp only [inv.dstsL, inv.putT, Nat.reduceAdd, List.set_cons_zero, List.set_cons_succ]
              have h0 : (vs 0) = .slice (some ⟨g1, o1, none⟩) N c := hD 0 (by kernel_rfl)
              have h1 : (vs 1) = .int .i64 (j : Int) := hD 1 (by kernel_rfl)
              subst hS
              rw [h0, h1]
              go_simp
              exact hK _ _ _ (by simp only [inv.dstsL, inv.putT, Nat.reduceAdd, List.set_cons_zero, List.set_cons_succ, h0, h1]; (try rfl)) (rfl) (rfl) (fun _ _ h => h)
            · simp only [inv.dstsL, inv.putT, Nat.reduceAdd, List.set_cons_zero, List.set_cons_succ]
              have h2 : (vs 2) = .pointer (some ⟨g1, o1 + j * 5, none⟩) := hD 2 (by kernel_rfl)
              subst hS
              rw [h2]
              go_simp
              exact hK _ _ _ (by simp only [inv.dstsL, inv.putT, Nat.reduceAdd, List.set_cons_zero, List.set_cons_succ, h2]; (try rfl)) (rfl) (rfl) (fun _ _ h => h)
            · simp only [inv.dstsL, inv.putT, Nat.reduceAdd, List.set_cons_zero, List.set_cons_succ]
              subst hS
              go_simp
              exact hK _ _ _ (by simp only [inv.dstsL, inv.putT, Nat.reduceAdd, List.set_cons_zero, List.set_cons_succ]; (try rfl)) (rfl) (rfl) (fun _ _ h => h)
            · simp only [inv.dstsL, inv.putT, Nat.reduceAdd, List.set_cons_zero, List.set_cons_succ]
              subst hS
              go_simp
              exact hK _ _ _ (by simp only [inv.dstsL, inv.putT, Nat.reduceAdd, List.set_cons_zero, List.set_cons_succ]; (try rfl)) (rfl) (rfl) (fun _ _ h => h)
            · simp only [inv.dstsL, inv.putT, Nat.reduceAdd, List.set_cons_zero, List.set_cons_succ]
              have h4 : (vs 4) = .slice (some ⟨g2, o2, none⟩) N d := hD 4 (by kernel_rfl)
              have h5 : (vs 5) = .int .i64 (j : Int) := hD 5 (by kernel_rfl)
              subst hS
              rw [h4, h5]
              go_simp
              exact hK _ _ _ (by simp only [inv.dstsL, inv.putT, Nat.reduceAdd, List.set_cons_zero, List.set_cons_succ, h4, h5]; (try rfl)) (rfl) (rfl) (fun _ _ h => h)
            · simp only [inv.dstsL, inv.putT, Nat.reduceAdd, List.set_cons_zero, List.set_cons_succ]
              have h6 : (vs 6) = .pointer (some ⟨g2, o2 + j * 5, none⟩) := hD 6 (by kernel_rfl)
              subst hS
              rw [h6]
              go_simp
              exact hK _ _ _ (by simp only [inv.dstsL, inv.putT, Nat.reduceAdd, List.set_cons_zero, List.set_cons_succ, h6]; (try rfl)) (rfl) (rfl) (fun _ _ h => h)
            · simp only [inv.dstsL, inv.putT, Nat.reduceAdd, List.set_cons_zero, List.set_cons_succ]
              have h3 : (vs 3) = (.agg #[.string xn, .int .i64 xk, .int .i64 xa, .int .i64 xb, .int .i64 xo]) := hD 3 (by kernel_rfl)
              have h7 : (vs 7) = (.agg #[.string yn, .int .i64 yk, .int .i64 ya, .int .i64 yb, .int .i64 yo]) := hD 7 (by kernel_rfl)
              subst hS
              rw [h3, h7]
              go_simp
              rw [ifs5 HNE.out]; go_simp
              exact hK _ _ _ (by simp only [inv.dstsL, inv.putT, Nat.reduceAdd, List.set_cons_zero, List.set_cons_succ, h3, h7]; (try rfl)) (rfl) (rfl) (fun _ _ h => h)
          case rest =>
            intro vs W done hdone hS hD
            have hb : (vs 8) = .bool true := hD 8 (by decide)
            subst hS
            simp only [inv.dstsL, inv.putT, Nat.reduceAdd, List.set_cons_zero, List.set_cons_succ]
            rw [hb]
            generalize vs 0 = y0, vs 1 = y1, vs 2 = y2, vs 3 = y3, vs 4 = y4, vs 5 = y5, vs 6 = y6, vs 7 = y7 at *
            clear hD hdone hb
            have BD := Lib.hid BL.out.drew
            go_wp2
            go_ret
            exact ⟨rfl, BD.out⟩
      · obtain rfl : N = j := by omega
        have hall : Hid (xs = ys) := same_upto (H1L.out.trans H2L.out.symm) (fun i h k => hsame.out i h k (by rw [← H1L.out]; exact h))
        clear hsame
        have hr : r = true := HR.out.2 hall.out
        subst hr
        go_wp2
        go_ret
        exact ⟨rfl, BL.out⟩
  · have e : r = false := by
      cases hq : r with
      | false => rfl
      | true => exact absurd (by have := hr.1 hq; subst this; exact hx.symm.trans hy) hNM
    subst e
    have T : ((N : Int) != M) = true := by rw [bne_iff_ne]; omega
    clear hx hy h1 h2 hr
    go_enter Tryd.func31, Tryd.ntmps31
    go_wp2
    go_ret
    exact ⟨rfl, Below.refl _ _⟩
set_option maxRecDepth 100000 in
set_option maxHeartbeats 2000000 in
theorem same_is (a b a' b' : Option Addr) (N c M d N' c' M' d' : Nat) (ns ns' : List Nd) (ds ds' : List Dv) (r : Bool) (w : World) (H : HasClasses w) (h : NetIn w a b N c M d ns ds) (h' : NetIn w a' b' N' c' M' d' ns' ds') (hr : r = true ↔ chk ns ds = 0 ∧ ns = ns' ∧ ds = ds') :
    Calls Tryd.prog 16 #[.agg #[.slice a N c, .slice b M d], .agg #[.slice a' N' c', .slice b' M' d']] w fun e w' => e = .returned (.bool r) ∧ Below w.heap.size w w' := by
  have bx1 := below_box w (.cells #[.slice a N c, .slice b M d] 26)
  have bx2 := below_box (w.alloc (.cells #[.slice a N c, .slice b M d] 26)) (.cells #[.slice a' N' c', .slice b' M' d'] 26)
  have bx := bx1.trans (bx2.mono bx1.size)
  have NT1 := Lib.hid ((NtAt.new w (.slice a N c) (.slice b M d) 26).alloc (.cells #[.slice a' N' c', .slice b' M' d'] 26))
  have nt2 := NtAt.new (w.alloc (.cells #[.slice a N c, .slice b M d] 26)) (.slice a' N' c') (.slice b' M' d') 26
  rw [World.size_alloc] at nt2
  have NT2 := Lib.hid nt2
  have HN := Lib.hid (fun W (k : Below w.heap.size w W) => h.below k)
  have HN' := Lib.hid (fun W (k : Below w.heap.size w W) => h'.below k)
  have BX := Lib.hid bx
  obtain ⟨E, hE⟩ : ∃ E, chk ns ds = E := ⟨_, rfl⟩
  rw [hE] at hr
  have CK := Lib.hid (check_is a b N c M d ns ds E _ (H.below bx) (HN.out _ bx) hE)
  have HR := Lib.hid hr
  clear H h h' bx1 bx2 bx nt2 hE hr
  by_cases e0 : E = 0
  · subst e0
    obtain ⟨r1, hr1⟩ : ∃ r1 : Bool, (r1 = true ↔ ns = ns') := by
      by_cases q : ns = ns'
      · exact ⟨true, ⟨fun _ => q, fun _ => rfl⟩⟩
      · exact ⟨false, ⟨fun h => (by cases h), fun h => absurd h q⟩⟩
    obtain ⟨r2, hr2⟩ : ∃ r2 : Bool, (r2 = true ↔ ds = ds') := by
      by_cases q : ds = ds'
      · exact ⟨true, ⟨fun _ => q, fun _ => rfl⟩⟩
      · exact ⟨false, ⟨fun h => (by cases h), fun h => absurd h q⟩⟩
    have hrr : r = (r1 && r2) := Bool.eq_iff_iff.2 (by rw [HR.out, Bool.and_eq_true, hr1, hr2]; exact ⟨fun h => h.2, fun h => ⟨rfl, h⟩⟩)
    subst hrr
    have EN := Lib.hid (fun W (k : Below w.heap.size w W) => equalN_is a a' N N' c c' ns ns' r1 W (HN.out W k).nlen (HN'.out W k).nlen (HN.out W k).nin (HN'.out W k).nin (Nat.le_trans (HN.out W k).ncap (HN.out W k).nmax) (Nat.le_trans (HN'.out W k).ncap (HN'.out W k).nmax) hr1)
    have ED := Lib.hid (fun W (k : Below w.heap.size w W) => equalD_is b b' M M' d d' ds ds' r2 W (HN.out W k).dlen (HN'.out W k).dlen (HN.out W k).din (HN'.out W k).din (Nat.le_trans (HN.out W k).dcap (HN.out W k).dmax) (Nat.le_trans (HN'.out W k).dcap (HN'.out W k).dmax) hr2)
    clear hr1 hr2 HR
    obtain ⟨q0, q1, -⟩ := NT1.out
    obtain ⟨q2, q3, -⟩ := NT2.out
    go_enter Tryd.func16, Tryd.ntmps16
    go_wp2_with fail
    refine CK.out.mono ?_; rintro e w1 ⟨rfl, b1⟩
    have B1 := Lib.hid (BX.out.trans (b1.mono BX.out.size))
    have n1 := NT1.out.below b1 (by simp; omega)
    have n2 := NT2.out.below b1 (by simp)
    have NB1 := Lib.hid n1
    have NB2 := Lib.hid n2
    obtain ⟨p0, p1, -⟩ := n1
    obtain ⟨p2, p3, -⟩ := n2
    clear b1 q0 q1 q2 q3
    go_wp2_with fail
    refine (EN.out w1 B1.out).mono ?_; rintro e w2 ⟨rfl, b2⟩
    have B2 := Lib.hid (B1.out.trans (b2.mono B1.out.size))
    obtain ⟨s0, s1, -⟩ := NB1.out.below b2 NB1.out.2.2
    obtain ⟨s2, s3, -⟩ := NB2.out.below b2 NB2.out.2.2
    clear b2 p0 p1 p2 p3
    cases r1
    · go_wp2
      go_ret
      exact ⟨rfl, B2.out⟩
    · go_wp2_with fail
      refine (ED.out w2 B2.out).mono ?_; rintro e w3 ⟨rfl, b3⟩
      have B3 := Lib.hid (B2.out.trans (b3.mono B2.out.size))
      clear b3
      go_wp2
      go_ret
      exact ⟨by simp, B3.out⟩
  · have hr : r = false := by
      cases hq : r with
      | false => rfl
      | true => exact absurd (HR.out.1 hq).1 e0
    subst hr
    have T : (E == 0) = false := beq_eq_false_iff_ne.2 e0
    obtain ⟨q0, q1, -⟩ := NT1.out
    go_enter Tryd.func16, Tryd.ntmps16
    go_wp2_with fail
    refine CK.out.mono ?_; rintro e w1 ⟨rfl, b1⟩
    have B1 := Lib.hid (BX.out.trans (b1.mono BX.out.size))
    clear b1
    go_wp2
    go_ret
    exact ⟨rfl, B1.out⟩
def DEq3r (p1 p2 g1 o1 g2 o2 N c d j : Nat) (x y : Value) (b : Bool) : Nat → Value → World → Prop
  | 0, v, _ => v = .pointer (some ⟨p1, 0, none⟩)
  | 1, v, _ => v = .slice (some ⟨g1, o1, none⟩) N c
  | 2, v, _ => v = .int .i64 (j : Int)
  | 3, v, _ => v = .pointer (some ⟨g1, o1 + j * 3, none⟩)
  | 4, v, _ => v = x
  | 5, v, _ => v = .pointer (some ⟨p2, 0, none⟩)
  | 6, v, _ => v = .slice (some ⟨g2, o2, none⟩) N d
  | 7, v, _ => v = .int .i64 (j : Int)
  | 8, v, _ => v = .pointer (some ⟨g2, o2 + j * 3, none⟩)
  | 9, v, _ => v = y
  | 10, v, _ => v = .bool b
  | _, _, _ => True
def DEq5r (p1 p2 g1 o1 g2 o2 N c d j : Nat) (x y : Value) (b : Bool) : Nat → Value → World → Prop
  | 0, v, _ => v = .pointer (some ⟨p1, 1, none⟩)
  | 1, v, _ => v = .slice (some ⟨g1, o1, none⟩) N c
  | 2, v, _ => v = .int .i64 (j : Int)
  | 3, v, _ => v = .pointer (some ⟨g1, o1 + j * 5, none⟩)
  | 4, v, _ => v = x
  | 5, v, _ => v = .pointer (some ⟨p2, 1, none⟩)
  | 6, v, _ => v = .slice (some ⟨g2, o2, none⟩) N d
  | 7, v, _ => v = .int .i64 (j : Int)
  | 8, v, _ => v = .pointer (some ⟨g2, o2 + j * 5, none⟩)
  | 9, v, _ => v = y
  | 10, v, _ => v = .bool b
  | _, _, _ => True
set_option maxRecDepth 100000 in
set_option maxHeartbeats 4000000 in
theorem rsame_len (a b a' b' : Option Addr) (N c M d c' d' : Nat) (ns ns' : List Nd) (ds ds' : List Dv) (r : Bool) (w : World) (h : NetIn w a b N c M d ns ds) (h' : NetIn w a' b' N c' M d' ns' ds') (hr : r = true ↔ ns = ns' ∧ ds = ds') :
    Calls Tryd.prog 17 #[.agg #[.slice a N c, .slice b M d], .agg #[.slice a' N c', .slice b' M d']] w fun e w' => e = .returned (.bool r) ∧ Below w.heap.size w w' := by
  have bx1 := below_box w (.cells #[.slice a N c, .slice b M d] 26)
  have bx2 := below_box (w.alloc (.cells #[.slice a N c, .slice b M d] 26)) (.cells #[.slice a' N c', .slice b' M d'] 26)
  have BX := Lib.hid (bx1.trans (bx2.mono bx1.size))
  have NT1 := Lib.hid ((NtAt.new w (.slice a N c) (.slice b M d) 26).alloc (.cells #[.slice a' N c', .slice b' M d'] 26))
  have nt2 := NtAt.new (w.alloc (.cells #[.slice a N c, .slice b M d] 26)) (.slice a' N c') (.slice b' M d') 26
  rw [World.size_alloc] at nt2
  have NT2 := Lib.hid nt2
  have N1 := Lib.hid h.nin
  have N2 := Lib.hid h'.nin
  have D1 := Lib.hid h.din
  have D2 := Lib.hid h'.din
  have N1L := Lib.hid h.nlen
  have N2L := Lib.hid h'.nlen
  have D1L := Lib.hid h.dlen
  have D2L := Lib.hid h'.dlen
  have m1 := Nat.le_trans h.ncap h.nmax
  have m2 := Nat.le_trans h.dcap h.dmax
  unfold maxLen at m1 m2
  have HR := Lib.hid hr
  clear bx1 bx2 nt2 h h' hr
  obtain ⟨q0, q1, -⟩ := NT1.out
  obtain ⟨q2, q3, -⟩ := NT2.out
  go_enter Tryd.func17, Tryd.ntmps17
  go_wp2_with fail
  clear q0 q1 q2 q3
  go_loopw [5] (fun iv wr => ∃ j : Nat, j ≤ N ∧ iv = .int .i64 j ∧ Hid (Below (w.heap.size + 2) ((w.alloc (.cells #[.slice a N c, .slice b M d] 26)).alloc (.cells #[.slice a' N c', .slice b' M d'] 26)) wr) ∧ Hid (∀ i (h : i < ns.length) (k : i < ns'.length), i < j → ns[i] = ns'[i])) (fun iv _ => N - (intOf iv).toNat)
  case atStart => exact ⟨0, Nat.zero_le _, rfl, Below.refl _ _, fun i _ _ h => by cases h⟩
  case round =>
    obtain ⟨j, hj, rfl, bel, hsame⟩ := hrel
    have BL := Lib.hid (BX.out.trans (bel.out.mono (by omega)))
    by_cases hjn : j < N
    · have hjx : j < ns.length := by rw [N1L.out]; exact hjn
      have hjy : j < ns'.length := by rw [N2L.out]; exact hjn
      obtain ⟨g1, o1, rfl, -, hc1⟩ := (N1.out.below BL.out).some (by omega)
      obtain ⟨g2, o2, rfl, -, hc2⟩ := (N2.out.below BL.out).some (by omega)
      obtain ⟨c0, c1, c2⟩ := cells_nd hc1 j hjx
      obtain ⟨d0, d1, d2⟩ := cells_nd hc2 j hjy
      obtain ⟨q0, q1, -⟩ := NT1.out.below bel.out (by omega)
      obtain ⟨q2, q3, -⟩ := NT2.out.below bel.out (by omega)
      by_cases e : ns[j] = ns'[j]
      · have hnx : Hid (∀ i (h : i < ns.length) (k : i < ns'.length), i < j + 1 → ns[i] = ns'[i]) := fun i h k hi => by
          by_cases q : i = j
          · subst q; exact e
          · exact hsame.out i h k (by omega)
        rw [← e] at d0 d1 d2
        generalize ns[j] = x at *
        obtain ⟨xn, xc, xo⟩ := x
        dsimp only at c0 c1 c2 d0 d1 d2
        clear hc1 hc2 hsame e
        go_wp2_with fail
        refine inv.wp_region_inv (fun _ W => W = wr.drew) (DEq3r w.heap.size (w.heap.size + 1) g1 o1 g2 o2 N c c' j (.agg #[.string xn, .int .i64 xc, .int .i64 xo]) (.agg #[.string xn, .int .i64 xc, .int .i64 xo]) false) (by kernel_rfl) (by kernel_rfl) (rfl) ?steps ?rest
        case steps =>
          refine ⟨fun vs W done hS hD hno K hK => ?_, fun vs W done hS hD hno K hK => ?_, fun vs W done hS hD hno K hK => ?_, fun vs W done hS hD hno K hK => ?_, fun vs W done hS hD hno K hK => ?_, fun vs W done hS hD hno K hK => ?_, fun vs W done hS hD hno K hK => ?_, fun vs W done hS hD hno K hK => ?_, fun vs W done hS hD hno K hK => ?_, fun vs W done hS hD hno K hK => ?_, fun vs W done hS hD hno K hK => ?_, trivial⟩
          · simp only [inv.dstsL, inv.putT, Nat.reduceAdd, List.set_cons_zero, List.set_cons_succ]
            subst hS
            go_simp
            exact hK _ _ _ (by simp only [inv.dstsL, inv.putT, Nat.reduceAdd, List.set_cons_zero, List.set_cons_succ]; (try rfl)) (rfl) (rfl) (fun _ _ h => h)
          · simp only [inv.dstsL, inv.putT, Nat.reduceAdd, List.set_cons_zero, List.set_cons_succ]
            have h0 : (vs 0) = .pointer (some ⟨w.heap.size, 0, none⟩) := hD 0 (by kernel_rfl)
            subst hS
            rw [h0]
            go_simp
            exact hK _ _ _ (by simp only [inv.dstsL, inv.putT, Nat.reduceAdd, List.set_cons_zero, List.set_cons_succ, h0]; (try rfl)) (rfl) (rfl) (fun _ _ h => h)
          · simp only [inv.dstsL, inv.putT, Nat.reduceAdd, List.set_cons_zero, List.set_cons_succ]
            subst hS
            go_simp
            exact hK _ _ _ (by simp only [inv.dstsL, inv.putT, Nat.reduceAdd, List.set_cons_zero, List.set_cons_succ]; (try rfl)) (rfl) (rfl) (fun _ _ h => h)
          · simp only [inv.dstsL, inv.putT, Nat.reduceAdd, List.set_cons_zero, List.set_cons_succ]
            have h1 : (vs 1) = .slice (some ⟨g1, o1, none⟩) N c := hD 1 (by kernel_rfl)
            have h2 : (vs 2) = .int .i64 (j : Int) := hD 2 (by kernel_rfl)
            subst hS
            rw [h1, h2]
            go_simp
            exact hK _ _ _ (by simp only [inv.dstsL, inv.putT, Nat.reduceAdd, List.set_cons_zero, List.set_cons_succ, h1, h2]; (try rfl)) (rfl) (rfl) (fun _ _ h => h)
          · simp only [inv.dstsL, inv.putT, Nat.reduceAdd, List.set_cons_zero, List.set_cons_succ]
            have h3 : (vs 3) = .pointer (some ⟨g1, o1 + j * 3, none⟩) := hD 3 (by kernel_rfl)
            subst hS
            rw [h3]
            go_simp
            exact hK _ _ _ (by simp only [inv.dstsL, inv.putT, Nat.reduceAdd, List.set_cons_zero, List.set_cons_succ, h3]; (try rfl)) (rfl) (rfl) (fun _ _ h => h)
          · simp only [inv.dstsL, inv.putT, Nat.reduceAdd, List.set_cons_zero, List.set_cons_succ]
            subst hS
            go_simp
            exact hK _ _ _ (by simp only [inv.dstsL, inv.putT, Nat.reduceAdd, List.set_cons_zero, List.set_cons_succ]; (try rfl)) (rfl) (rfl) (fun _ _ h => h)
          · simp only [inv.dstsL, inv.putT, Nat.reduceAdd, List.set_cons_zero, List.set_cons_succ]
            have h5 : (vs 5) = .pointer (some ⟨(w.heap.size + 1), 0, none⟩) := hD 5 (by kernel_rfl)
            subst hS
            rw [h5]
            go_simp
            exact hK _ _ _ (by simp only [inv.dstsL, inv.putT, Nat.reduceAdd, List.set_cons_zero, List.set_cons_succ, h5]; (try rfl)) (rfl) (rfl) (fun _ _ h => h)
          · simp only [inv.dstsL, inv.putT, Nat.reduceAdd, List.set_cons_zero, List.set_cons_succ]
            subst hS
            go_simp
            exact hK _ _ _ (by simp only [inv.dstsL, inv.putT, Nat.reduceAdd, List.set_cons_zero, List.set_cons_succ]; (try rfl)) (rfl) (rfl) (fun _ _ h => h)
          · simp only [inv.dstsL, inv.putT, Nat.reduceAdd, List.set_cons_zero, List.set_cons_succ]
            have h6 : (vs 6) = .slice (some ⟨g2, o2, none⟩) N c' := hD 6 (by kernel_rfl)
            have h7 : (vs 7) = .int .i64 (j : Int) := hD 7 (by kernel_rfl)
            subst hS
            rw [h6, h7]
            go_simp
            exact hK _ _ _ (by simp only [inv.dstsL, inv.putT, Nat.reduceAdd, List.set_cons_zero, List.set_cons_succ, h6, h7]; (try rfl)) (rfl) (rfl) (fun _ _ h => h)
          · simp only [inv.dstsL, inv.putT, Nat.reduceAdd, List.set_cons_zero, List.set_cons_succ]
            have h8 : (vs 8) = .pointer (some ⟨g2, o2 + j * 3, none⟩) := hD 8 (by kernel_rfl)
            subst hS
            rw [h8]
            go_simp
            exact hK _ _ _ (by simp only [inv.dstsL, inv.putT, Nat.reduceAdd, List.set_cons_zero, List.set_cons_succ, h8]; (try rfl)) (rfl) (rfl) (fun _ _ h => h)
          · simp only [inv.dstsL, inv.putT, Nat.reduceAdd, List.set_cons_zero, List.set_cons_succ]
            have h4 : (vs 4) = (.agg #[.string xn, .int .i64 xc, .int .i64 xo]) := hD 4 (by kernel_rfl)
            have h9 : (vs 9) = (.agg #[.string xn, .int .i64 xc, .int .i64 xo]) := hD 9 (by kernel_rfl)
            subst hS
            rw [h4, h9]
            go_simp
            exact hK _ _ _ (by simp only [inv.dstsL, inv.putT, Nat.reduceAdd, List.set_cons_zero, List.set_cons_succ, h4, h9]; (try rfl)) (rfl) (rfl) (fun _ _ h => h)
        case rest =>
          intro vs W done hdone hS hD
          have hb : (vs 10) = .bool false := hD 10 (by decide)
          subst hS
          simp only [inv.dstsL, inv.putT, Nat.reduceAdd, List.set_cons_zero, List.set_cons_succ]
          rw [hb]
          generalize vs 0 = y0, vs 1 = y1, vs 2 = y2, vs 3 = y3, vs 4 = y4, vs 5 = y5, vs 6 = y6, vs 7 = y7, vs 8 = y8, vs 9 = y9 at *
          clear hD hdone hb
          have BD := Lib.hid bel.out.drew
          go_wp2
          go_roundw
          case rel => exact ⟨j + 1, by omega, by go_num, BD, hnx⟩
          case measure => simp [intOf]; omega
      · have hr : r = false := by
          cases hq : r with
          | false => rfl
          | true => exact absurd (by have := (HR.out.1 hq).1; subst this; rfl) e
        have HNE := Lib.hid (nd_ne e)
        subst hr
        generalize ns[j] = x at *
        generalize ns'[j] = y at *
        obtain ⟨xn, xc, xo⟩ := x
        obtain ⟨yn, yc, yo⟩ := y
        dsimp only at c0 c1 c2 d0 d1 d2 HNE
        clear hc1 hc2 hsame e
        go_wp2_with fail
        refine inv.wp_region_inv (fun _ W => W = wr.drew) (DEq3r w.heap.size (w.heap.size + 1) g1 o1 g2 o2 N c c' j (.agg #[.string xn, .int .i64 xc, .int .i64 xo]) (.agg #[.string yn, .int .i64 yc, .int .i64 yo]) true) (by kernel_rfl) (by kernel_rfl) (rfl) ?steps ?rest
        case steps =>
          refine ⟨fun vs W done hS hD hno K hK => ?_, fun vs W done hS hD hno K hK => ?_, fun vs W done hS hD hno K hK => ?_, fun vs W done hS hD hno K hK => ?_, fun vs W done hS hD hno K hK => ?_, fun vs W done hS hD hno K hK => ?_, fun vs W done hS hD hno K hK => ?_, fun vs W done hS hD hno K hK => ?_, fun vs W done hS hD hno K hK => ?_, fun vs W done hS hD hno K hK => ?_, fun vs W done hS hD hno K hK => ?_, trivial⟩
          · simp only [inv.dstsL, inv.putT, Nat.reduceAdd, List.set_cons_zero, List.set_cons_succ]
            subst hS
            go_simp
            exact hK _ _ _ (by simp only [inv.dstsL, inv.putT, Nat.reduceAdd, List.set_cons_zero, List.set_cons_succ]; (try rfl)) (rfl) (rfl) (fun _ _ h => h)
          · simp only [inv.dstsL, inv.putT, Nat.reduceAdd, List.set_cons_zero, List.set_cons_succ]
            have h0 : (vs 0) = .pointer (some ⟨w.heap.size, 0, none⟩) := hD 0 (by kernel_rfl)
            subst hS
            rw [h0]
            go_simp
            exact hK _ _ _ (by simp only [inv.dstsL, inv.putT, Nat.reduceAdd, List.set_cons_zero, List.set_cons_succ, h0]; (try rfl)) (rfl) (rfl) (fun _ _ h => h)
          · simp only [inv.dstsL, inv.putT, Nat.reduceAdd, List.set_cons_zero, List.set_cons_succ]
            subst hS
            go_simp
            exact hK _ _ _ (by simp only [inv.dstsL, inv.putT, Nat.reduceAdd, List.set_cons_zero, List.set_cons_succ]; (try rfl)) (rfl) (rfl) (fun _ _ h => h)
          · simp only [inv.dstsL, inv.putT, Nat.reduceAdd, List.set_cons_zero, List.set_cons_succ]
            have h1 : (vs 1) = .slice (some ⟨g1, o1, none⟩) N c := hD 1 (by kernel_rfl)
            have h2 : (vs 2) = .int .i64 (j : Int) := hD 2 (by kernel_rfl)
            subst hS
            rw [h1, h2]
            go_simp
            exact hK _ _ _ (by simp only [inv.dstsL, inv.putT, Nat.reduceAdd, List.set_cons_zero, List.set_cons_succ, h1, h2]; (try rfl)) (rfl) (rfl) (fun _ _ h => h)
          · simp only [inv.dstsL, inv.putT, Nat.reduceAdd, List.set_cons_zero, List.set_cons_succ]
            have h3 : (vs 3) = .pointer (some ⟨g1, o1 + j * 3, none⟩) := hD 3 (by kernel_rfl)
            subst hS
            rw [h3]
            go_simp
            exact hK _ _ _ (by simp only [inv.dstsL, inv.putT, Nat.reduceAdd, List.set_cons_zero, List.set_cons_succ, h3]; (try rfl)) (rfl) (rfl) (fun _ _ h => h)
          · simp only [inv.dstsL, inv.putT, Nat.reduceAdd, List.set_cons_zero, List.set_cons_succ]
            subst hS
            go_simp
            exact hK _ _ _ (by simp only [inv.dstsL, inv.putT, Nat.reduceAdd, List.set_cons_zero, List.set_cons_succ]; (try rfl)) (rfl) (rfl) (fun _ _ h => h)
          · simp only [inv.dstsL, inv.putT, Nat.reduceAdd, List.set_cons_zero, List.set_cons_succ]
            have h5 : (vs 5) = .pointer (some ⟨(w.heap.size + 1), 0, none⟩) := hD 5 (by kernel_rfl)
            subst hS
            rw [h5]
            go_simp
            exact hK _ _ _ (by simp only [inv.dstsL, inv.putT, Nat.reduceAdd, List.set_cons_zero, List.set_cons_succ, h5]; (try rfl)) (rfl) (rfl) (fun _ _ h => h)
          · simp only [inv.dstsL, inv.putT, Nat.reduceAdd, List.set_cons_zero, List.set_cons_succ]
            subst hS
            go_simp
            exact hK _ _ _ (by simp only [inv.dstsL, inv.putT, Nat.reduceAdd, List.set_cons_zero, List.set_cons_succ]; (try rfl)) (rfl) (rfl) (fun _ _ h => h)
          · simp only [inv.dstsL, inv.putT, Nat.reduceAdd, List.set_cons_zero, List.set_cons_succ]
            have h6 : (vs 6) = .slice (some ⟨g2, o2, none⟩) N c' := hD 6 (by kernel_rfl)
            have h7 : (vs 7) = .int .i64 (j : Int) := hD 7 (by kernel_rfl)
            subst hS
            rw [h6, h7]
            go_simp
            exact hK _ _ _ (by simp only [inv.dstsL, inv.putT, Nat.reduceAdd, List.set_cons_zero, List.set_cons_succ, h6, h7]; (try rfl)) (rfl) (rfl) (fun _ _ h => h)
          · simp only [inv.dstsL, inv.putT, Nat.reduceAdd, List.set_cons_zero, List.set_cons_succ]
            have h8 : (vs 8) = .pointer (some ⟨g2, o2 + j * 3, none⟩) := hD 8 (by kernel_rfl)
            subst hS
            rw [h8]
            go_simp
            exact hK _ _ _ (by simp only [inv.dstsL, inv.putT, Nat.reduceAdd, List.set_cons_zero, List.set_cons_succ, h8]; (try rfl)) (rfl) (rfl) (fun _ _ h => h)
          · simp only [inv.dstsL, inv.putT, Nat.reduceAdd, List.set_cons_zero, List.set_cons_succ]
            have h4 : (vs 4) = (.agg #[.string xn, .int .i64 xc, .int .i64 xo]) := hD 4 (by kernel_rfl)
            have h9 : (vs 9) = (.agg #[.string yn, .int .i64 yc, .int .i64 yo]) := hD 9 (by kernel_rfl)
            subst hS
            rw [h4, h9]
            go_simp
            rw [ifs3 HNE.out]; go_simp
            exact hK _ _ _ (by simp only [inv.dstsL, inv.putT, Nat.reduceAdd, List.set_cons_zero, List.set_cons_succ, h4, h9]; (try rfl)) (rfl) (rfl) (fun _ _ h => h)
        case rest =>
          intro vs W done hdone hS hD
          have hb : (vs 10) = .bool true := hD 10 (by decide)
          subst hS
          simp only [inv.dstsL, inv.putT, Nat.reduceAdd, List.set_cons_zero, List.set_cons_succ]
          rw [hb]
          generalize vs 0 = y0, vs 1 = y1, vs 2 = y2, vs 3 = y3, vs 4 = y4, vs 5 = y5, vs 6 = y6, vs 7 = y7, vs 8 = y8, vs 9 = y9 at *
          clear hD hdone hb
          have BD := Lib.hid BL.out.drew
          go_wp2
          go_ret
          exact ⟨rfl, BD.out⟩
    · obtain rfl : N = j := by omega
      have hall : Hid (ns = ns') := same_upto (N1L.out.trans N2L.out.symm) (fun i h k => hsame.out i h k (by rw [← N1L.out]; exact h))
      clear hsame
      have HALL := hall
      clear hall
      obtain ⟨q0, q1, -⟩ := NT1.out.below bel.out (by omega)
      obtain ⟨q2, q3, -⟩ := NT2.out.below bel.out (by omega)
      go_wp2_with fail
      go_loopw [6] (fun iv wr => ∃ j : Nat, j ≤ M ∧ iv = .int .i64 j ∧ Hid (Below (w.heap.size + 2) ((w.alloc (.cells #[.slice a N c, .slice b M d] 26)).alloc (.cells #[.slice a' N c', .slice b' M d'] 26)) wr) ∧ Hid (∀ i (h : i < ds.length) (k : i < ds'.length), i < j → ds[i] = ds'[i])) (fun iv _ => M - (intOf iv).toNat)
      case atStart => exact ⟨0, Nat.zero_le _, rfl, bel, fun i _ _ h => by cases h⟩
      case round =>
        clear bel BL; obtain ⟨j, hj, rfl, bel, hsame⟩ := hrel
        have BL := Lib.hid (BX.out.trans (bel.out.mono (by omega)))
        by_cases hjn : j < M
        · have hjx : j < ds.length := by rw [D1L.out]; exact hjn
          have hjy : j < ds'.length := by rw [D2L.out]; exact hjn
          obtain ⟨g1, o1, rfl, -, hc1⟩ := (D1.out.below BL.out).some (by omega)
          obtain ⟨g2, o2, rfl, -, hc2⟩ := (D2.out.below BL.out).some (by omega)
          obtain ⟨c0, c1, c2, c3, c4⟩ := cells_dv hc1 j hjx
          obtain ⟨d0, d1, d2, d3, d4⟩ := cells_dv hc2 j hjy
          obtain ⟨q0, q1, -⟩ := NT1.out.below bel.out (by omega)
          obtain ⟨q2, q3, -⟩ := NT2.out.below bel.out (by omega)
          by_cases e : ds[j] = ds'[j]
          · have hnx : Hid (∀ i (h : i < ds.length) (k : i < ds'.length), i < j + 1 → ds[i] = ds'[i]) := fun i h k hi => by
              by_cases q : i = j
              · subst q; exact e
              · exact hsame.out i h k (by omega)
            rw [← e] at d0 d1 d2 d3 d4
            generalize ds[j] = x at *
            obtain ⟨xn, xk, xa, xb, xo⟩ := x
            dsimp only at c0 c1 c2 c3 c4 d0 d1 d2 d3 d4
            clear hc1 hc2 hsame e
            go_wp2_with fail
            refine inv.wp_region_inv (fun _ W => W = wr.drew) (DEq5r w.heap.size (w.heap.size + 1) g1 o1 g2 o2 M d d' j (.agg #[.string xn, .int .i64 xk, .int .i64 xa, .int .i64 xb, .int .i64 xo]) (.agg #[.string xn, .int .i64 xk, .int .i64 xa, .int .i64 xb, .int .i64 xo]) false) (by kernel_rfl) (by kernel_rfl) (rfl) ?steps ?rest
            case steps =>
              refine ⟨fun vs W done hS hD hno K hK => ?_, fun vs W done hS hD hno K hK => ?_, fun vs W done hS hD hno K hK => ?_, fun vs W done hS hD hno K hK => ?_, fun vs W done hS hD hno K hK => ?_, fun vs W done hS hD hno K hK => ?_, fun vs W done hS hD hno K hK => ?_, fun vs W done hS hD hno K hK => ?_, fun vs W done hS hD hno K hK => ?_, fun vs W done hS hD hno K hK => ?_, fun vs W done hS hD hno K hK => ?_, trivial⟩
              · simp only [inv.dstsL, inv.putT, Nat.reduceAdd, List.set_cons_zero, List.set_cons_succ]
                subst hS
                go_simp
                exact hK _ _ _ (by simp only [inv.dstsL, inv.putT, Nat.reduceAdd, List.set_cons_zero, List.set_cons_succ]; (try rfl)) (rfl) (rfl) (fun _ _ h => h)
              · simp only [inv.dstsL, inv.putT, Nat.reduceAdd, List.set_cons_zero, List.set_cons_succ]
                have h0 : (vs 0) = .pointer (some ⟨w.heap.size, 1, none⟩) := hD 0 (by kernel_rfl)
                subst hS
                rw [h0]
                go_simp
                exact hK _ _ _ (by simp only [inv.dstsL, inv.putT, Nat.reduceAdd, List.set_cons_zero, List.set_cons_succ, h0]; (try rfl)) (rfl) (rfl) (fun _ _ h => h)
              · simp only [inv.dstsL, inv.putT, Nat.reduceAdd, List.set_cons_zero, List.set_cons_succ]
                subst hS
                go_simp
                exact hK _ _ _ (by simp only [inv.dstsL, inv.putT, Nat.reduceAdd, List.set_cons_zero, List.set_cons_succ]; (try rfl)) (rfl) (rfl) (fun _ _ h => h)
              · simp only [inv.dstsL, inv.putT, Nat.reduceAdd, List.set_cons_zero, List.set_cons_succ]
                have h1 : (vs 1) = .slice (some ⟨g1, o1, none⟩) M d := hD 1 (by kernel_rfl)
                have h2 : (vs 2) = .int .i64 (j : Int) := hD 2 (by kernel_rfl)
                subst hS
                rw [h1, h2]
                go_simp
                exact hK _ _ _ (by simp only [inv.dstsL, inv.putT, Nat.reduceAdd, List.set_cons_zero, List.set_cons_succ, h1, h2]; (try rfl)) (rfl) (rfl) (fun _ _ h => h)
              · simp only [inv.dstsL, inv.putT, Nat.reduceAdd, List.set_cons_zero, List.set_cons_succ]
                have h3 : (vs 3) = .pointer (some ⟨g1, o1 + j * 5, none⟩) := hD 3 (by kernel_rfl)
                subst hS
                rw [h3]
                go_simp
                exact hK _ _ _ (by simp only [inv.dstsL, inv.putT, Nat.reduceAdd, List.set_cons_zero, List.set_cons_succ, h3]; (try rfl)) (rfl) (rfl) (fun _ _ h => h)
              · simp only [inv.dstsL, inv.putT, Nat.reduceAdd, List.set_cons_zero, List.set_cons_succ]
                subst hS
                go_simp
                exact hK _ _ _ (by simp only [inv.dstsL, inv.putT, Nat.reduceAdd, List.set_cons_zero, List.set_cons_succ]; (try rfl)) (rfl) (rfl) (fun _ _ h => h)
              · simp only [inv.dstsL, inv.putT, Nat.reduceAdd, List.set_cons_zero, List.set_cons_succ]
                have h5 : (vs 5) = .pointer (some ⟨(w.heap.size + 1), 1, none⟩) := hD 5 (by kernel_rfl)
                subst hS
                rw [h5]
                go_simp
                exact hK _ _ _ (by simp only [inv.dstsL, inv.putT, Nat.reduceAdd, List.set_cons_zero, List.set_cons_succ, h5]; (try rfl)) (rfl) (rfl) (fun _ _ h => h)
              · simp only [inv.dstsL, inv.putT, Nat.reduceAdd, List.set_cons_zero, List.set_cons_succ]
                subst hS
                go_simp
                exact hK _ _ _ (by simp only [inv.dstsL, inv.putT, Nat.reduceAdd, List.set_cons_zero, List.set_cons_succ]; (try rfl)) (rfl) (rfl) (fun _ _ h => h)
              · simp only [inv.dstsL, inv.putT, Nat.reduceAdd, List.set_cons_zero, List.set_cons_succ]
                have h6 : (vs 6) = .slice (some ⟨g2, o2, none⟩) M d' := hD 6 (by kernel_rfl)
                have h7 : (vs 7) = .int .i64 (j : Int) := hD 7 (by kernel_rfl)
                subst hS
                rw [h6, h7]
                go_simp
                exact hK _ _ _ (by simp only [inv.dstsL, inv.putT, Nat.reduceAdd, List.set_cons_zero, List.set_cons_succ, h6, h7]; (try rfl)) (rfl) (rfl) (fun _ _ h => h)
              · simp only [inv.dstsL, inv.putT, Nat.reduceAdd, List.set_cons_zero, List.set_cons_succ]
                have h8 : (vs 8) = .pointer (some ⟨g2, o2 + j * 5, none⟩) := hD 8 (by kernel_rfl)
                subst hS
                rw [h8]
                go_simp
                exact hK _ _ _ (by simp only [inv.dstsL, inv.putT, Nat.reduceAdd, List.set_cons_zero, List.set_cons_succ, h8]; (try rfl)) (rfl) (rfl) (fun _ _ h => h)
              · simp only [inv.dstsL, inv.putT, Nat.reduceAdd, List.set_cons_zero, List.set_cons_succ]
                have h4 : (vs 4) = (.agg #[.string xn, .int .i64 xk, .int .i64 xa, .int .i64 xb, .int .i64 xo]) := hD 4 (by kernel_rfl)
                have h9 : (vs 9) = (.agg #[.string xn, .int .i64 xk, .int .i64 xa, .int .i64 xb, .int .i64 xo]) := hD 9 (by kernel_rfl)
                subst hS
                rw [h4, h9]
                go_simp
                exact hK _ _ _ (by simp only [inv.dstsL, inv.putT, Nat.reduceAdd, List.set_cons_zero, List.set_cons_succ, h4, h9]; (try rfl)) (rfl) (rfl) (fun _ _ h => h)
            case rest =>
              intro vs W done hdone hS hD
              have hb : (vs 10) = .bool false := hD 10 (by decide)
              subst hS
              simp only [inv.dstsL, inv.putT, Nat.reduceAdd, List.set_cons_zero, List.set_cons_succ]
              rw [hb]
              generalize vs 0 = y0, vs 1 = y1, vs 2 = y2, vs 3 = y3, vs 4 = y4, vs 5 = y5, vs 6 = y6, vs 7 = y7, vs 8 = y8, vs 9 = y9 at *
              clear hD hdone hb
              have BD := Lib.hid bel.out.drew
              go_wp2
              go_roundw
              case rel => exact ⟨j + 1, by omega, by go_num, BD, hnx⟩
              case measure => simp [intOf]; omega
          · have hr : r = false := by
              cases hq : r with
              | false => rfl
              | true => exact absurd (by have := (HR.out.1 hq).2; subst this; rfl) e
            have HNE := Lib.hid (dv_ne e)
            subst hr
            generalize ds[j] = x at *
            generalize ds'[j] = y at *
            obtain ⟨xn, xk, xa, xb, xo⟩ := x
            obtain ⟨yn, yk, ya, yb, yo⟩ := y
            dsimp only at c0 c1 c2 c3 c4 d0 d1 d2 d3 d4 HNE
            clear hc1 hc2 hsame e
            go_wp2_with fail
            refine inv.wp_region_inv (fun _ W => W = wr.drew) (DEq5r w.heap.size (w.heap.size + 1) g1 o1 g2 o2 M d d' j (.agg #[.string xn, .int .i64 xk, .int .i64 xa, .int .i64 xb, .int .i64 xo]) (.agg #[.string yn, .int .i64 yk, .int .i64 ya, .int .i64 yb, .int .i64 yo]) true) (by kernel_rfl) (by kernel_rfl) (rfl) ?steps ?rest
            case steps =>
              refine ⟨fun vs W done hS hD hno K hK => ?_, fun vs W done hS hD hno K hK => ?_, fun vs W done hS hD hno K hK => ?_, fun vs W done hS hD hno K hK => ?_, fun vs W done hS hD hno K hK => ?_, fun vs W done hS hD hno K hK => ?_, fun vs W done hS hD hno K hK => ?_, fun vs W done hS hD hno K hK => ?_, fun vs W done hS hD hno K hK => ?_, fun vs W done hS hD hno K hK => ?_, fun vs W done hS hD hno K hK => ?_, trivial⟩
              · simp only [inv.dstsL, inv.putT, Nat.reduceAdd, List.set_cons_zero, List.set_cons_succ]
                subst hS
                go_simp
                exact hK _ _ _ (by simp only [inv.dstsL, inv.putT, Nat.reduceAdd, List.set_cons_zero, List.set_cons_succ]; (try rfl)) (rfl) (rfl) (fun _ _ h => h)
              · simp only [inv.dstsL, inv.putT, Nat.reduceAdd, List.set_cons_zero, List.set_cons_succ]
                have h0 : (vs 0) = .pointer (some ⟨w.heap.size, 1, none⟩) := hD 0 (by kernel_rfl)
                subst hS
                rw [h0]
                go_simp
                exact hK _ _ _ (by simp only [inv.dstsL, inv.putT, Nat.reduceAdd, List.set_cons_zero, List.set_cons_succ, h0]; (try rfl)) (rfl) (rfl) (fun _ _ h => h)
              · simp only [inv.dstsL, inv.putT, Nat.reduceAdd, List.set_cons_zero, List.set_cons_succ]
                subst hS
                go_simp
                exact hK _ _ _ (by simp only [inv.dstsL, inv.putT, Nat.reduceAdd, List.set_cons_zero, List.set_cons_succ]; (try rfl)) (rfl) (rfl) (fun _ _ h => h)
              · simp only [inv.dstsL, inv.putT, Nat.reduceAdd, List.set_cons_zero, List.set_cons_succ]
                have h1 : (vs 1) = .slice (some ⟨g1, o1, none⟩) M d := hD 1 (by kernel_rfl)
                have h2 : (vs 2) = .int .i64 (j : Int) := hD 2 (by kernel_rfl)
                subst hS
                rw [h1, h2]
                go_simp
                exact hK _ _ _ (by simp only [inv.dstsL, inv.putT, Nat.reduceAdd, List.set_cons_zero, List.set_cons_succ, h1, h2]; (try rfl)) (rfl) (rfl) (fun _ _ h => h)
              · simp only [inv.dstsL, inv.putT, Nat.reduceAdd, List.set_cons_zero, List.set_cons_succ]
                have h3 : (vs 3) = .pointer (some ⟨g1, o1 + j * 5, none⟩) := hD 3 (by kernel_rfl)
                subst hS
                rw [h3]
                go_simp
                exact hK _ _ _ (by simp only [inv.dstsL, inv.putT, Nat.reduceAdd, List.set_cons_zero, List.set_cons_succ, h3]; (try rfl)) (rfl) (rfl) (fun _ _ h => h)
              · simp only [inv.dstsL, inv.putT, Nat.reduceAdd, List.set_cons_zero, List.set_cons_succ]
                subst hS
                go_simp
                exact hK _ _ _ (by simp only [inv.dstsL, inv.putT, Nat.reduceAdd, List.set_cons_zero, List.set_cons_succ]; (try rfl)) (rfl) (rfl) (fun _ _ h => h)
              · simp only [inv.dstsL, inv.putT, Nat.reduceAdd, List.set_cons_zero, List.set_cons_succ]
                have h5 : (vs 5) = .pointer (some ⟨(w.heap.size + 1), 1, none⟩) := hD 5 (by kernel_rfl)
                subst hS
                rw [h5]
                go_simp
                exact hK _ _ _ (by simp only [inv.dstsL, inv.putT, Nat.reduceAdd, List.set_cons_zero, List.set_cons_succ, h5]; (try rfl)) (rfl) (rfl) (fun _ _ h => h)
              · simp only [inv.dstsL, inv.putT, Nat.reduceAdd, List.set_cons_zero, List.set_cons_succ]
                subst hS
                go_simp
                exact hK _ _ _ (by simp only [inv.dstsL, inv.putT, Nat.reduceAdd, List.set_cons_zero, List.set_cons_succ]; (try rfl)) (rfl) (rfl) (fun _ _ h => h)
              · simp only [inv.dstsL, inv.putT, Nat.reduceAdd, List.set_cons_zero, List.set_cons_succ]
                have h6 : (vs 6) = .slice (some ⟨g2, o2, none⟩) M d' := hD 6 (by kernel_rfl)
                have h7 : (vs 7) = .int .i64 (j : Int) := hD 7 (by kernel_rfl)
                subst hS
                rw [h6, h7]
                go_simp
                exact hK _ _ _ (by simp only [inv.dstsL, inv.putT, Nat.reduceAdd, List.set_cons_zero, List.set_cons_succ, h6, h7]; (try rfl)) (rfl) (rfl) (fun _ _ h => h)
              · simp only [inv.dstsL, inv.putT, Nat.reduceAdd, List.set_cons_zero, List.set_cons_succ]
                have h8 : (vs 8) = .pointer (some ⟨g2, o2 + j * 5, none⟩) := hD 8 (by kernel_rfl)
                subst hS
                rw [h8]
                go_simp
                exact hK _ _ _ (by simp only [inv.dstsL, inv.putT, Nat.reduceAdd, List.set_cons_zero, List.set_cons_succ, h8]; (try rfl)) (rfl) (rfl) (fun _ _ h => h)
              · simp only [inv.dstsL, inv.putT, Nat.reduceAdd, List.set_cons_zero, List.set_cons_succ]
                have h4 : (vs 4) = (.agg #[.string xn, .int .i64 xk, .int .i64 xa, .int .i64 xb, .int .i64 xo]) := hD 4 (by kernel_rfl)
                have h9 : (vs 9) = (.agg #[.string yn, .int .i64 yk, .int .i64 ya, .int .i64 yb, .int .i64 yo]) := hD 9 (by kernel_rfl)
                subst hS
                rw [h4, h9]
                go_simp
                rw [ifs5 HNE.out]; go_simp
                exact hK _ _ _ (by simp only [inv.dstsL, inv.putT, Nat.reduceAdd, List.set_cons_zero, List.set_cons_succ, h4, h9]; (try rfl)) (rfl) (rfl) (fun _ _ h => h)
            case rest =>
              intro vs W done hdone hS hD
              have hb : (vs 10) = .bool true := hD 10 (by decide)
              subst hS
              simp only [inv.dstsL, inv.putT, Nat.reduceAdd, List.set_cons_zero, List.set_cons_succ]
              rw [hb]
              generalize vs 0 = y0, vs 1 = y1, vs 2 = y2, vs 3 = y3, vs 4 = y4, vs 5 = y5, vs 6 = y6, vs 7 = y7, vs 8 = y8, vs 9 = y9 at *
              clear hD hdone hb
              have BD := Lib.hid BL.out.drew
              go_wp2
              go_ret
              exact ⟨rfl, BD.out⟩
        · obtain rfl : M = j := by omega
          have hall : Hid (ds = ds') := same_upto (D1L.out.trans D2L.out.symm) (fun i h k => hsame.out i h k (by rw [← D1L.out]; exact h))
          clear hsame
          have hr : r = true := HR.out.2 ⟨HALL.out, hall.out⟩
          subst hr
          obtain ⟨q0, q1, -⟩ := NT1.out.below bel.out (by omega)
          go_wp2
          go_ret
          exact ⟨rfl, BL.out⟩
set_option maxRecDepth 100000 in
set_option maxHeartbeats 2000000 in
theorem rsame_is (a b a' b' : Option Addr) (N c M d N' c' M' d' : Nat) (ns ns' : List Nd) (ds ds' : List Dv) (r : Bool) (w : World) (h : NetIn w a b N c M d ns ds) (h' : NetIn w a' b' N' c' M' d' ns' ds') (hr : r = true ↔ ns = ns' ∧ ds = ds') :
    Calls Tryd.prog 17 #[.agg #[.slice a N c, .slice b M d], .agg #[.slice a' N' c', .slice b' M' d']] w fun e w' => e = .returned (.bool r) ∧ Below w.heap.size w w' := by
  by_cases hn : N = N' ∧ M = M'
  · obtain ⟨rfl, rfl⟩ := hn
    exact rsame_len a b a' b' N c M d c' d' ns ns' ds ds' r w h h' hr
  · have e : r = false := by
      cases hq : r with
      | false => rfl
      | true =>
        obtain ⟨e1, e2⟩ := hr.1 hq
        subst e1 e2
        exact absurd ⟨h.nlen.symm.trans h'.nlen, h.dlen.symm.trans h'.dlen⟩ hn
    subst e
    have bx1 := below_box w (.cells #[.slice a N c, .slice b M d] 26)
    have bx2 := below_box (w.alloc (.cells #[.slice a N c, .slice b M d] 26)) (.cells #[.slice a' N' c', .slice b' M' d'] 26)
    have BX := Lib.hid (bx1.trans (bx2.mono bx1.size))
    obtain ⟨q0, q1, -⟩ := ((NtAt.new w (.slice a N c) (.slice b M d) 26).alloc (.cells #[.slice a' N' c', .slice b' M' d'] 26))
    have nt2 := NtAt.new (w.alloc (.cells #[.slice a N c, .slice b M d] 26)) (.slice a' N' c') (.slice b' M' d') 26
    rw [World.size_alloc] at nt2
    obtain ⟨q2, q3, -⟩ := nt2
    clear bx1 bx2 h h' hr
    by_cases k1 : N = N'
    · have k2 : ((M : Int) != M') = true := by rw [bne_iff_ne]; intro k; exact hn ⟨k1, by omega⟩
      subst k1
      clear hn
      go_enter Tryd.func17, Tryd.ntmps17
      go_wp2
      go_ret
      exact ⟨rfl, BX.out⟩
    · have k2 : ((N : Int) != N') = true := by rw [bne_iff_ne]; omega
      clear hn
      go_enter Tryd.func17, Tryd.ntmps17
      go_wp2
      go_ret
      exact ⟨rfl, BX.out⟩
end Go.Proofs.YtdgllaiejhnjmaaDoor.mod
