/- The walks of layer 3: the sanity check of the statements. Condition: the table 'classes' holds what its text lays. -/
import Derived.Test.YtleggojgcaefdaaDoorNetH
namespace Go.Proofs.YtleggojgcaefdaaDoor.net
open Go.RowKit lex aggs kit deck

def awNs : List Nd := [⟨⟨#[65]⟩, 0, 0⟩, ⟨⟨#[66]⟩, 0, 0⟩]
def awDs : List Dv := [⟨⟨#[76, 49]⟩, 1, 0, 1, 0⟩, ⟨⟨#[76, 50]⟩, 1, 1, 0, 0⟩]
theorem aw_chk : chk awNs awDs = 0 := by kernel_rfl
theorem aw_dev : fnd (nmsD awDs) ⟨#[76, 50]⟩ = 1 := by kernel_rfl
theorem aw_way {xs : List Nat} {ok : Bool} {er : Int} (h : WayIs awNs awDs [true, true] 0 1 xs ok er) : er = 0 ∧ ok = true ∧ xs = [0] := by
  unfold WayIs at h
  rw [if_pos aw_chk, if_pos (show [true, true].length = awDs.length from rfl), if_pos (by decide)] at h
  obtain ⟨he, D, hD, h⟩ := h
  have g1 : nb awDs [true, true] 0 1 = ((0 : Nat) : Int) := rfl
  have g0 : nb awDs [true, true] 0 0 = ((1 : Nat) : Int) := rfl
  have z : D 1 = 0 := hD.zero
  have s := hD.step 1 (by decide) (by rw [z]; decide) 0 (by decide) 0 (by decide) g1
  have hne : D 0 ≠ 0 := fun e => by have := hD.only 0 (by decide) e; exact absurd this (by decide)
  have d0 : D 0 = 1 := by omega
  have f0 : D (0 : Int).toNat = 1 := d0
  rcases h with ⟨h, _⟩ | ⟨n, h, ok, hx⟩
  · omega
  · obtain rfl : n = 1 := by omega
    refine ⟨he, ok, hx.trans ?_⟩
    have hn : nxt (nb awDs [true, true]) awDs.length D 0 = 0 := fi_hit (by decide) (nearB_iff.2 ⟨by rw [g0]; decide, by rw [g0, Int.toNat_natCast, z, d0]; rfl⟩) (fun i hi => by cases hi)
    show wayL _ _ D 1 0 = [0]
    rw [wayL, hn]; rfl
theorem rin_new {α : Type} {enc : α → List Value} {k : Nat} (w : World) (C : Array Value) (T g : Nat) (hg : g = w.heap.size) (xs : List α) (hC : C.toList = flat enc xs) : RIn enc k (w.alloc (.cells C T)) (some ⟨g, 0, none⟩) xs := by
  subst hg
  refine .inr ⟨_, 0, rfl, by simp, fun i u hu => ?_⟩
  rw [Nat.zero_add, World.cell?_alloc_new, ← hu, ← hC]
  simp
theorem aw_in (w : World) (T1 T2 : Nat) (o3 o4 : Obj) : NetIn ((((w.alloc (.cells #[.string ⟨#[65]⟩, .int .i64 0, .int .i64 0, .string ⟨#[66]⟩, .int .i64 0, .int .i64 0] T1)).alloc (.cells #[.string ⟨#[76, 49]⟩, .int .i64 1, .int .i64 0, .int .i64 1, .int .i64 0, .string ⟨#[76, 50]⟩, .int .i64 1, .int .i64 1, .int .i64 0, .int .i64 0] T2)).alloc o3).alloc o4)
    (some ⟨w.heap.size, 0, none⟩) (some ⟨w.heap.size + 1, 0, none⟩) 2 2 2 2 awNs awDs where
  nlen := rfl
  dlen := rfl
  nin := (((rin_new (enc := encNd) w _ T1 _ rfl awNs rfl).below (below_box _ _)).below (below_box _ _)).below (below_box _ _)
  din := ((rin_new (enc := encDv) _ _ T2 _ (by simp) awDs rfl).below (below_box _ _)).below (below_box _ _)
  nsz := by
    intro x hx
    simp only [awNs, List.mem_cons, List.not_mem_nil, or_false] at hx
    rcases hx with rfl | rfl <;> decide
  dfit := by
    intro x hx
    simp only [awDs, List.mem_cons, List.not_mem_nil, or_false] at hx
    rcases hx with rfl | rfl <;> exact ⟨by decide, by decide, by decide, by decide, by decide⟩
  ncap := Nat.le_refl _
  nmax := by decide
  dcap := Nat.le_refl _
  dmax := by decide
theorem NumsAt.one {w : World} {base : Nat} {v : Value} {n : Nat} (h : NumsAt w base v [n]) : ∃ g c, v = .slice (some ⟨g, 0, none⟩) 1 c ∧ g < w.heap.size ∧ w.cell? ⟨g, 0, none⟩ = some (.int .i64 (n : Int)) ∧ base ≤ g := by
  rcases AggsAt.shape h encN_len with ⟨_, e⟩ | ⟨g, c, e, hb, hg, _, _, hc, _⟩
  · cases e
  · exact ⟨g, c, e, hg, by have := hc 0 _ rfl; simpa [encN] using this, hb⟩
set_option maxRecDepth 100000 in
set_option maxHeartbeats 4000000 in
theorem awake_is (w : World) (H : HasClasses w) :
    Calls Tryd.prog 11 #[] w fun e w' => e = .returned (.bool true) ∧ Below w.heap.size w w' := by
  go_enter Tryd.func11, Tryd.ntmps11
  go_wp2_with fail
  have b1 : Hid (Below w.heap.size w ((((w.alloc (.cells #[.string ⟨#[65]⟩, .int .i64 0, .int .i64 0, .string ⟨#[66]⟩, .int .i64 0, .int .i64 0] 56)).alloc (.cells #[.string ⟨#[76, 49]⟩, .int .i64 1, .int .i64 0, .int .i64 1, .int .i64 0, .string ⟨#[76, 50]⟩, .int .i64 1, .int .i64 1, .int .i64 0, .int .i64 0] 54)).alloc (.cells #[.slice (some ⟨w.heap.size, 0, none⟩) 2 2, .slice (some ⟨w.heap.size + 1, 0, none⟩) 2 2] 26)).alloc (.cells #[.bool true, .bool true] 4))) := (below_box _ _).trans (((below_box _ _).mono (by simp)).trans (((below_box _ _).mono (by simp; omega)).trans ((below_box _ _).mono (by simp; omega))))
  have ni := Lib.hid (aw_in w 56 54 (.cells #[.slice (some ⟨w.heap.size, 0, none⟩) 2 2, .slice (some ⟨w.heap.size + 1, 0, none⟩) 2 2] 26) (.cells #[.bool true, .bool true] 4))
  have nt : Hid (NtAt ((((w.alloc (.cells #[.string ⟨#[65]⟩, .int .i64 0, .int .i64 0, .string ⟨#[66]⟩, .int .i64 0, .int .i64 0] 56)).alloc (.cells #[.string ⟨#[76, 49]⟩, .int .i64 1, .int .i64 0, .int .i64 1, .int .i64 0, .string ⟨#[76, 50]⟩, .int .i64 1, .int .i64 1, .int .i64 0, .int .i64 0] 54)).alloc (.cells #[.slice (some ⟨w.heap.size, 0, none⟩) 2 2, .slice (some ⟨w.heap.size + 1, 0, none⟩) 2 2] 26)).alloc (.cells #[.bool true, .bool true] 4)) (w.heap.size + 1 + 1) (.slice (some ⟨w.heap.size, 0, none⟩) 2 2) (.slice (some ⟨w.heap.size + 1, 0, none⟩) 2 2)) := by
    have := (NtAt.new ((w.alloc (.cells #[.string ⟨#[65]⟩, .int .i64 0, .int .i64 0, .string ⟨#[66]⟩, .int .i64 0, .int .i64 0] 56)).alloc (.cells #[.string ⟨#[76, 49]⟩, .int .i64 1, .int .i64 0, .int .i64 1, .int .i64 0, .string ⟨#[76, 50]⟩, .int .i64 1, .int .i64 1, .int .i64 0, .int .i64 0] 54)) (.slice (some ⟨w.heap.size, 0, none⟩) 2 2) (.slice (some ⟨w.heap.size + 1, 0, none⟩) 2 2) 26).alloc (.cells #[.bool true, .bool true] 4)
    simp only [World.size_alloc] at this
    exact this
  have ui := Lib.hid (rin_new (enc := encB) (k := 1) (((w.alloc (.cells #[.string ⟨#[65]⟩, .int .i64 0, .int .i64 0, .string ⟨#[66]⟩, .int .i64 0, .int .i64 0] 56)).alloc (.cells #[.string ⟨#[76, 49]⟩, .int .i64 1, .int .i64 0, .int .i64 1, .int .i64 0, .string ⟨#[76, 50]⟩, .int .i64 1, .int .i64 1, .int .i64 0, .int .i64 0] 54)).alloc (.cells #[.slice (some ⟨w.heap.size, 0, none⟩) 2 2, .slice (some ⟨w.heap.size + 1, 0, none⟩) 2 2] 26)) #[.bool true, .bool true] 4 (w.heap.size + 1 + 1 + 1) (by simp) [true, true] rfl)
  have HW := Lib.hid (H.below b1.out)
  have WY := Lib.hid (way_is _ _ _ _ _ _ _ 2 2 awNs awDs [true, true] 0 1 _ HW.out ni.out ui.out rfl (by decide) (by decide) (by decide) (by decide) (by decide))
  obtain ⟨w4, hw4⟩ : ∃ w4, (((w.alloc (.cells #[.string ⟨#[65]⟩, .int .i64 0, .int .i64 0, .string ⟨#[66]⟩, .int .i64 0, .int .i64 0] 56)).alloc (.cells #[.string ⟨#[76, 49]⟩, .int .i64 1, .int .i64 0, .int .i64 1, .int .i64 0, .string ⟨#[76, 50]⟩, .int .i64 1, .int .i64 1, .int .i64 0, .int .i64 0] 54)).alloc (.cells #[.slice (some ⟨w.heap.size, 0, none⟩) 2 2, .slice (some ⟨w.heap.size + 1, 0, none⟩) 2 2] 26)).alloc (.cells #[.bool true, .bool true] 4) = w4 := ⟨_, rfl⟩
  rw [hw4] at b1 ni nt ui HW WY ⊢
  clear hw4
  obtain ⟨x, hx⟩ : ∃ x, w.heap.size = x := ⟨_, rfl⟩
  have HX := Lib.hid hx
  rw [hx] at b1 ni nt ui WY ⊢
  clear hx
  refine WY.out.mono ?_
  rintro e w5 ⟨v, xs, ok, er, rfl, nu, b5, wi⟩
  obtain ⟨rfl, rfl, rfl⟩ := aw_way wi
  obtain ⟨g, c, rfl, hg, hc, hgb⟩ := nu.one
  have B5 := Lib.hid (b1.out.trans (b5.mono (by have := b1.out.size; rw [HX.out] at this; exact this)))
  have ni5 := Lib.hid (ni.out.below b5)
  have nt5 := Lib.hid (nt.out.below b5 nt.out.2.2)
  obtain ⟨k1, k2, -⟩ := nt5.out
  have HG := Lib.hid hg
  have HC := Lib.hid hc
  clear nu b5 wi WY hc hg
  go_wp2_with fail
  refine (check_is _ _ _ _ _ _ awNs awDs 0 w5 (H.below (by rw [HX.out]; exact B5.out)) ni5.out aw_chk).mono ?_; rintro e w6 ⟨rfl, b6⟩
  have nt6 := Lib.hid (nt5.out.below b6 nt5.out.2.2)
  obtain ⟨l1, l2, -⟩ := nt6.out
  have B6 := Lib.hid (B5.out.trans (b6.mono (by have := B5.out.size; rw [HX.out] at this; exact this)))
  have ni6 := Lib.hid (ni5.out.below b6)
  have hc6 : w6.cell? ⟨g, 0, none⟩ = some (.int .i64 ((0 : Nat) : Int)) := by rw [b6.cell (p := ⟨g, 0, none⟩) HG.out]; exact HC.out
  clear b6 k1 k2
  go_wp2_with fail
  refine (device_is _ _ _ _ _ _ awNs awDs ⟨#[76, 50]⟩ 1 w6 (H.below (by rw [HX.out]; exact B6.out)) ni6.out (by rw [if_pos aw_chk]; exact aw_dev)).mono ?_; rintro e w7 ⟨rfl, b7⟩
  have B7 := Lib.hid (B6.out.trans (b7.mono (by have := B6.out.size; rw [HX.out] at this; exact this)))
  clear b7
  go_wp2
  go_ret
  exact ⟨rfl, by rw [HX.out]; exact B7.out⟩
end Go.Proofs.YtleggojgcaefdaaDoor.net
