/- The walk of awake of the statements of layer 5. Condition: the table 'classes' holds what its text lays. -/
import Derived.Test.YthdjpmiohfaphaaGreatDoorPgD
import Derived.Test.YthdjpmiohfaphaaGreatDoorRgP
import Derived.Test.YthdjpmiohfaphaaGreatDoorHcOf
namespace Go.Proofs.YthdjpmiohfaphaaGreatDoor.reg
open Go.RowKit lex aggs kit net deck

theorem reg_one {W : World} {g T : Nat} {p : Pn} (h : W.heap[g]? = some (.cells #[.string p.nm, .int .i64 p.co, .int .i64 p.sk, .int .i64 p.fr, .int .i64 p.un] T (0, 0))) (hs : p.nm.size ≤ maxLen) : RegIn W (some ⟨g, 0, none⟩) 1 1 [p] where
  len := rfl
  rin := .inr ⟨g, 0, rfl, lt_of_block h, fun i u hu => by
    rw [Nat.zero_add, (cell_at h i).1]
    rw [show flat encPn [p] = encPn p from flat_one _ _] at hu
    simpa [encPn] using hu⟩
  fit := fun x hx => by obtain rfl : x = p := by simpa using hx
                        exact hs
  ncap := Nat.le_refl _
  nmax := by decide
  nil := fun h => by cases h
def pnA : Pn := ⟨⟨#[65]⟩, 0, 8, 360, 840⟩
theorem wakeA : canP [pnA] ⟨#[65]⟩ 8 360 = true := by kernel_rfl
theorem wakeB : canP [pnA] ⟨#[65]⟩ 8 840 = false := by kernel_rfl
theorem wakeC : canP [pnA] ⟨#[65]⟩ 0 400 = false := by kernel_rfl
theorem wakeD : fndP [pnA] ⟨#[65]⟩ = 0 := by kernel_rfl
theorem skA : SkI [pnA] := fun x hx => by obtain rfl : x = pnA := by simpa using hx
                                          exact ⟨by decide, by decide⟩
set_option maxRecDepth 100000 in
set_option maxHeartbeats 2000000 in
theorem awake_is (w : World) (H : HasClasses w) :
    Calls Tryz.prog 5 #[] w fun e w' => e = .returned (.bool true) ∧ Below w.heap.size w w' := by
  have HH := Lib.hid (fun W (b : Below w.heap.size w W) => H.below b)
  have bx := below_box w (.cells #[.string ⟨#[65]⟩, .int .i64 0, .int .i64 8, .int .i64 360, .int .i64 840] 27)
  have hz := heap_alloc_new w (.cells #[.string ⟨#[65]⟩, .int .i64 0, .int .i64 8, .int .i64 360, .int .i64 840] 27)
  obtain ⟨W1, hW1⟩ : ∃ W, w.alloc (.cells #[.string ⟨#[65]⟩, .int .i64 0, .int .i64 8, .int .i64 360, .int .i64 840] 27) = W := ⟨_, rfl⟩
  obtain ⟨x, hx⟩ : ∃ x, w.heap.size = x := ⟨_, rfl⟩
  have hs1 : W1.heap.size = x + 1 := by rw [← hW1, ← hx]; simp
  rw [hW1] at bx hz
  rw [hx] at bx hz HH
  have hz2 := heap_alloc_new W1 (.cells #[.slice none 0 0] 25)
  have hset := set_at (i := 0) (.slice (some ⟨x, 0, none⟩) 1 1) hz2
  have B2 : Below x w ((W1.alloc (.cells #[.slice none 0 0] 25)).setCell ⟨W1.heap.size, 0, none⟩ (.slice (some ⟨x, 0, none⟩) 1 1)) := (bx.trans ((below_box W1 _).mono (by omega))).setCell (p := ⟨W1.heap.size, 0, none⟩) (by show x ≤ W1.heap.size; omega) _
  have hb1 : ((W1.alloc (.cells #[.slice none 0 0] 25)).setCell ⟨W1.heap.size, 0, none⟩ (.slice (some ⟨x, 0, none⟩) 1 1)).heap[x]? = _ := (World.grownBy.block (gb_set (i := 0) (.slice (some ⟨x, 0, none⟩) 1 1) (gb_refl (W1.alloc (.cells #[.slice none 0 0] 25)) (some W1.heap.size))) x (by simp; omega) (by simp; omega)).trans (((below_box W1 (.cells #[.slice none 0 0] 25)).block x (by omega)).trans hz)
  obtain ⟨W2, hW2⟩ : ∃ W, (W1.alloc (.cells #[.slice none 0 0] 25)).setCell ⟨W1.heap.size, 0, none⟩ (.slice (some ⟨x, 0, none⟩) 1 1) = W := ⟨_, rfl⟩
  rw [hW2] at hset B2 hb1
  rw [hs1] at hset hW2
  have REG := Lib.hid (reg_one (p := pnA) hb1 (by decide))
  have BX := Lib.hid B2
  have SET := Lib.hid hset
  have CA := Lib.hid (fun W (b : Below W2.heap.size W2 W) => can_is (some ⟨x, 0, none⟩) 1 1 [pnA] ⟨#[65]⟩ 8 360 _ W (REG.out.below b) (HH.out W (BX.out.trans (b.mono (by have := BX.out.size; omega)))) skA wakeA)
  have CB := Lib.hid (fun W (b : Below W2.heap.size W2 W) => can_is (some ⟨x, 0, none⟩) 1 1 [pnA] ⟨#[65]⟩ 8 840 _ W (REG.out.below b) (HH.out W (BX.out.trans (b.mono (by have := BX.out.size; omega)))) skA wakeB)
  have CC := Lib.hid (fun W (b : Below W2.heap.size W2 W) => can_is (some ⟨x, 0, none⟩) 1 1 [pnA] ⟨#[65]⟩ 0 400 _ W (REG.out.below b) (HH.out W (BX.out.trans (b.mono (by have := BX.out.size; omega)))) skA wakeC)
  have FD := Lib.hid (fun W (b : Below W2.heap.size W2 W) => find_is (some ⟨x, 0, none⟩) 1 1 [pnA] ⟨#[65]⟩ _ W (REG.out.below b) (HH.out W (BX.out.trans (b.mono (by have := BX.out.size; omega)))) skA wakeD)
  have hl := Lib.hid (lt_of_block hset)
  obtain ⟨k1, -⟩ := cell_at hset 0
  obtain ⟨c0, z0⟩ := cell_at hz2 0
  rw [hs1] at c0 z0
  clear H bx hz hset B2 hb1 hz2
  go_enter Tryz.func5, Tryz.ntmps5
  go_wp2_with fail
  first | rw [hW2] | skip
  refine (CA.out _ (Below.refl _ _)).mono ?_; rintro e w3 ⟨rfl, b3⟩
  have B3 := Lib.hid b3
  have k3 : w3.cell? ⟨x + 1, 0, none⟩ = some (.slice (some ⟨x, 0, none⟩) 1 1) := by rw [b3.cell (p := ⟨x + 1, 0, none⟩) hl.out]; exact k1
  clear b3
  go_wp2_with fail
  refine (CB.out _ B3.out).mono ?_; rintro e w4 ⟨rfl, b4⟩
  have B4 := Lib.hid (B3.out.trans (b4.mono B3.out.size))
  have k4 : w4.cell? ⟨x + 1, 0, none⟩ = some (.slice (some ⟨x, 0, none⟩) 1 1) := by rw [B4.out.cell (p := ⟨x + 1, 0, none⟩) hl.out]; exact k1
  clear b4 k3
  go_wp2_with fail
  refine (CC.out _ B4.out).mono ?_; rintro e w5 ⟨rfl, b5⟩
  have B5 := Lib.hid (B4.out.trans (b5.mono B4.out.size))
  have k5 : w5.cell? ⟨x + 1, 0, none⟩ = some (.slice (some ⟨x, 0, none⟩) 1 1) := by rw [B5.out.cell (p := ⟨x + 1, 0, none⟩) hl.out]; exact k1
  clear b5 k4
  go_wp2_with fail
  refine (FD.out _ B5.out).mono ?_; rintro e w6 ⟨rfl, b6⟩
  have B6 := Lib.hid (BX.out.trans ((B5.out.trans (b6.mono B5.out.size)).mono (by have := BX.out.size; omega)))
  clear b6 k5
  go_wp2
  go_ret
  exact ⟨rfl, by rw [hx]; exact B6.out⟩
end Go.Proofs.YthdjpmiohfaphaaGreatDoor.reg
