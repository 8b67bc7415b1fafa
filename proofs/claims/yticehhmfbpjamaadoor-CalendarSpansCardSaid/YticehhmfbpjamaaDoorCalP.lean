/- The walks of layer 2 on spans: Valid and the reference's; Span, which makes a span out of a deck. -/
import Derived.Test.YticehhmfbpjamaaDoorUniM
import Derived.Test.YticehhmfbpjamaaDoorAggs
import Derived.Test.YticehhmfbpjamaaDoorLexA
import Derived.Test.YticehhmfbpjamaaDoorDeck
import Derived.BigGuardPart
namespace Go.Proofs.YticehhmfbpjamaaDoor.cal
open Go.RowKit lex uni aggs deck kit

/-- a span's two cells -/
def encSp (s : Sp) : List Value := [.int .i64 s.1, .int .i64 s.2]
theorem encSp_len (s : Sp) : (encSp s).length = 2 := rfl
theorem encSp_one (s : Sp) : ∀ v ∈ encSp s, v.oneCell' = true := by intro v hv; simp [encSp] at hv; rcases hv with rfl | rfl <;> rfl
theorem bcell {W w1 : World} (hb : Below W.heap.size W w1) : (∀ b o, b < W.heap.size → w1.cell? ⟨b, o, none⟩ = W.cell? ⟨b, o, none⟩) ∧ (∀ b o, b < W.heap.size → w1.frozen? ⟨b, o, none⟩ = W.frozen? ⟨b, o, none⟩) :=
  ⟨fun b o h => hb.cell (p := ⟨b, o, none⟩) h, fun b o h => hb.frozen (p := ⟨b, o, none⟩) h⟩

set_option maxRecDepth 100000 in
theorem valid_is (a b : Int) (v : Bool) (hv : spOk (a, b) = v) (w : World) :
    Calls Tryd.prog 32 #[.agg #[.int .i64 a, .int .i64 b]] w fun e w' => e = .returned (.bool v) ∧ Below w.heap.size w w' := by
  unfold spOk at hv
  simp only at hv
  have hr : a < 0 ∨ (0 ≤ a ∧ b ≤ a) ∨ (0 ≤ a ∧ a < b ∧ b ≤ 16777216) ∨ (0 ≤ a ∧ a < b ∧ 16777216 < b) := by omega
  rcases hr with r1 | ⟨r1, r2⟩ | ⟨r1, r2, r3⟩ | ⟨r1, r2, r3⟩
  · rw [decide_eq_false (by omega)] at hv
    subst hv
    go_enter Tryd.func32, Tryd.ntmps32
    go_wp2
    all_goals (first | (exfalso; omega) | (go_ret; exact ⟨ret_bool (by first | rfl | exact decide_eq_true (by omega) | exact decide_eq_false (by omega)), (Below.refl _ _).alloc (Nat.le_refl _) _⟩))
  · rw [decide_eq_false (by omega)] at hv
    subst hv
    go_enter Tryd.func32, Tryd.ntmps32
    go_wp2
    all_goals (first | (exfalso; omega) | (go_ret; exact ⟨ret_bool (by first | rfl | exact decide_eq_true (by omega) | exact decide_eq_false (by omega)), (Below.refl _ _).alloc (Nat.le_refl _) _⟩))
  · rw [decide_eq_true (by omega)] at hv
    subst hv
    go_enter Tryd.func32, Tryd.ntmps32
    go_wp2
    all_goals (first | (exfalso; omega) | (go_ret; exact ⟨ret_bool (by first | rfl | exact decide_eq_true (by omega) | exact decide_eq_false (by omega)), (Below.refl _ _).alloc (Nat.le_refl _) _⟩))
  · rw [decide_eq_false (by omega)] at hv
    subst hv
    go_enter Tryd.func32, Tryd.ntmps32
    go_wp2
    all_goals (first | (exfalso; omega) | (go_ret; exact ⟨ret_bool (by first | rfl | exact decide_eq_true (by omega) | exact decide_eq_false (by omega)), (Below.refl _ _).alloc (Nat.le_refl _) _⟩))

set_option maxRecDepth 100000 in
theorem rvalid_is (a b : Int) (v : Bool) (hv : spOk (a, b) = v) (w : World) :
    Calls Tryd.prog 33 #[.agg #[.int .i64 a, .int .i64 b]] w fun e w' => e = .returned (.bool v) ∧ Below w.heap.size w w' := by
  unfold spOk at hv
  simp only at hv
  have hr : a < 0 ∨ (0 ≤ a ∧ b ≤ a) ∨ (0 ≤ a ∧ a < b ∧ b ≤ 16777216) ∨ (0 ≤ a ∧ a < b ∧ 16777216 < b) := by omega
  rcases hr with r1 | ⟨r1, r2⟩ | ⟨r1, r2, r3⟩ | ⟨r1, r2, r3⟩
  · rw [decide_eq_false (by omega)] at hv
    subst hv
    go_enter Tryd.func33, Tryd.ntmps33
    go_wp2
    all_goals (first | (exfalso; omega) | (go_ret; exact ⟨ret_bool (by first | rfl | exact decide_eq_true (by omega) | exact decide_eq_false (by omega)), (Below.refl _ _).alloc (Nat.le_refl _) _⟩))
  · rw [decide_eq_false (by omega)] at hv
    subst hv
    go_enter Tryd.func33, Tryd.ntmps33
    go_wp2
    all_goals (first | (exfalso; omega) | (go_ret; exact ⟨ret_bool (by first | rfl | exact decide_eq_true (by omega) | exact decide_eq_false (by omega)), (Below.refl _ _).alloc (Nat.le_refl _) _⟩))
  · rw [decide_eq_true (by omega)] at hv
    subst hv
    go_enter Tryd.func33, Tryd.ntmps33
    go_wp2
    all_goals (first | (exfalso; omega) | (go_ret; exact ⟨ret_bool (by first | rfl | exact decide_eq_true (by omega) | exact decide_eq_false (by omega)), (Below.refl _ _).alloc (Nat.le_refl _) _⟩))
  · rw [decide_eq_false (by omega)] at hv
    subst hv
    go_enter Tryd.func33, Tryd.ntmps33
    go_wp2
    all_goals (first | (exfalso; omega) | (go_ret; exact ⟨ret_bool (by first | rfl | exact decide_eq_true (by omega) | exact decide_eq_false (by omega)), (Below.refl _ _).alloc (Nat.le_refl _) _⟩))

/-- what Span leaves -/
def SpanPost (w0 w : World) (b : Nat) (a : Option Addr) (len cap : Nat) (n : Int) (e : Ending) (w' : World) : Prop :=
  ∃ f u : Int, e = .returned (.agg #[.int .i64 f, .int .i64 u]) ∧ 0 ≤ f ∧ f < n ∧ f < u ∧ u ≤ f + 1 + n / 2 ∧ Game w0 w' b a len cap ∧ w.grownBy w' (some b)
theorem cells2 {w : World} {b t : Nat} {x y : Value} (h : w.heap[b]? = some (.cells #[x, y] t (0, 0))) :
    w.cell? ⟨b, 0, none⟩ = some x ∧ w.cell? ⟨b, 1, none⟩ = some y ∧ w.frozen? ⟨b, 0, none⟩ = false ∧ w.frozen? ⟨b, 1, none⟩ = false := by
  refine ⟨?_, ?_, ?_, ?_⟩ <;> simp [World.cell?, World.frozen?, h]
theorem gb_trans {w w1 w2 : World} {b : Nat} (h : w.grownBy w1 (some b)) (g : w1.grownBy w2 (some b)) : w.grownBy w2 (some b) where
  os := by rw [g.os, h.os]
  tape := by rw [g.tape, h.tape]
  output := by rw [g.output, h.output]
  size := Nat.le_trans h.size g.size
  block := fun k hk hne => by rw [g.block k (Nat.lt_of_lt_of_le hk h.size) hne, h.block k hk hne]
theorem gb_new {w w1 : World} {b i : Nat} {row : Option Nat} (u : Value) (h : w.grownBy w1 row) (hb : w.heap.size ≤ b) : w.grownBy (w1.setCell ⟨b, i, none⟩ u) row where
  os := h.os
  tape := h.tape
  output := h.output
  size := by have := h.size; simpa using this
  block := fun k hk hne => by rw [Below.heap_setCell _ _ _ _ (show k ≠ b from by omega)]; exact h.block k hk hne
theorem gb_none {w w1 : World} {row : Option Nat} (h : w.grownBy w1 none) : w.grownBy w1 row := ⟨h.os, h.tape, h.output, h.size, fun k hk _ => h.block k hk (by simp)⟩
theorem game_set {w0 w : World} {b len cap c i : Nat} {a : Option Addr} (h : Game w0 w b a len cap) (hm : w0.heap.size ≤ c) (hne : c ≠ b) (u : Value) : Game w0 (w.setCell ⟨c, i, none⟩ u) b a len cap :=
  ⟨h.below.setCell (p := ⟨c, i, none⟩) hm u, h.deck.other (gb_set u (gb_refl w (some c))) (by simp [Ne.symm hne]), h.mine⟩
set_option maxRecDepth 100000 in
set_option maxHeartbeats 400000 in
theorem span_any (b len cap : Nat) (a : Option Addr) (zs : List Int) (n : Int) (w0 w : World) (hd : Game w0 w b a len cap) (hr : IsRow .i64 w0 a len cap zs) (n1 : 1 ≤ n) (n2 : n ≤ 1000000) :
    Calls Tryd.prog 24 #[.pointer (some ⟨b, 0, none⟩), .int .i64 n] w (SpanPost w0 w b a len cap n) := by
  have HB := Lib.hid hd.lt
  have HM := Lib.hid hd.mine
  have HW := Lib.hid hd.below
  have HD := Lib.hid (hd.alloc (.cells #[.int .i64 0, .int .i64 0] 43))
  have HR := Lib.hid hr
  clear hr hd
  go_enter Tryd.func24, Tryd.ntmps24
  go_wp2_with fail
  refine (next_any b len cap a zs n _ HD.out.deck (HR.out.below HD.out.below) (by omega)).mono ?_
  rintro e w1 ⟨r, rfl, r0, r1, d1, g1⟩
  have r2 : r < n := by omega
  have hne : w.heap.size ≠ b := by have := HB.out; omega
  have D1 := Lib.hid (show Game w0 w1 b a len cap from ⟨HD.out.below.grown g1 HD.out.below.size (fun k hk => by cases hk; exact HM.out), d1, HM.out⟩)
  have B1 := Lib.hid (show w1.heap[w.heap.size]? = some (.cells #[.int .i64 0, .int .i64 0] 43 (0, 0)) from by
    rw [g1.block w.heap.size (by simp) (by simpa using hne)]; exact heap_alloc_new w _)
  have G1 := Lib.hid (gb_trans (gb_none (World.grownBy_alloc w (.cells #[.int .i64 0, .int .i64 0] 43) none)) g1)
  clear d1 g1 r1
  go_wp2_with fail
  refine (next_any b len cap a zs (n / 2 + 1) _ D1.out.deck (HR.out.below D1.out.below) (by omega)).mono ?_
  rintro e w2 ⟨q, rfl, q0, q1, d2, g2⟩
  have q2 : q ≤ n / 2 := by omega
  have D2 := Lib.hid (show Game w0 w2 b a len cap from ⟨D1.out.below.grown g2 D1.out.below.size (fun k hk => by cases hk; exact HM.out), d2, HM.out⟩)
  have B2 := Lib.hid (show w2.heap[w.heap.size]? = some (.cells #[.int .i64 0, .int .i64 0] 43 (0, 0)) from by
    rw [g2.block w.heap.size (lt_of_block B1.out) (by simpa using hne)]; exact B1.out)
  have G2 := Lib.hid (gb_trans G1.out g2)
  obtain ⟨c0, c1, f0, f1⟩ := cells2 B2.out
  clear d2 g2 q1
  go_wp2
  refine bodyPost_ret (v := .agg #[.int .i64 r, .int .i64 (r + 1 + q)]) (by simp [results, Tryd.results24, go_sem, c0, c1]) rfl ?_
  refine ⟨r, r + 1 + q, rfl, r0, r2, by omega, by omega, ?_, ?_⟩
  · exact game_set (game_set D2.out HW.out.size hne _) HW.out.size hne _
  · exact gb_new _ (gb_new _ G2.out (Nat.le_refl _)) (Nat.le_refl _)
end Go.Proofs.YticehhmfbpjamaaDoor.cal
