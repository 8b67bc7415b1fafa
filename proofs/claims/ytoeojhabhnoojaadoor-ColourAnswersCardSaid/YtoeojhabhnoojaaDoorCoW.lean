/- The walk of the sanity check of layer 7's statements: the example of the chapter. Conditions: the tables 'classes' and 'flags' hold what their texts lay. -/
import Derived.Test.YtoeojhabhnoojaaDoorCoD
namespace Go.Proofs.YtoeojhabhnoojaaDoor.col
open Go.RowKit Go.Maps lex aggs kit net deck msk

def awNs : List Nd := [⟨⟨#[65]⟩, 0, 0⟩, ⟨⟨#[66]⟩, 0, 0⟩]
def awDs : List Dv := [⟨⟨#[83]⟩, 5, 0, -1, 0⟩, ⟨⟨#[81]⟩, 2, 0, 1, 0⟩, ⟨⟨#[69]⟩, 4, 1, -1, 0⟩]
theorem aw_chk : chkM 2 awNs awDs [2, 2, 2] = 0 := by kernel_rfl
theorem aw_chk2 : chkM 2 awNs awDs [2, 1, 2] = 0 := by kernel_rfl
theorem aw_col : coL awDs [2, 2, 2] 2 = [3, 3] := by decide +kernel
theorem aw_fau : faL awDs [2, 1, 2] 2 = [] := by decide +kernel
theorem rin_new {α : Type} {enc : α → List Value} {k : Nat} (w : World) (C : Array Value) (T g : Nat) (hg : g = w.heap.size) (xs : List α) (hC : C.toList = flat enc xs) : RIn enc k (w.alloc (.cells C T)) (some ⟨g, 0, none⟩) xs := by
  subst hg
  refine .inr ⟨_, 0, rfl, by simp, fun i u hu => ?_⟩
  rw [Nat.zero_add, World.cell?_alloc_new, ← hu, ← hC]
  simp
theorem lin_new (w : World) (C : Array Value) (T : Nat) (xs : List Int) (N : Nat) (hN : xs.length = N) (hm : N ≤ 1000) (hC : C.toList = flat encI xs) : LIn (w.alloc (.cells C T)) (some ⟨w.heap.size, 0, none⟩) N N xs := by
  refine ⟨hN, Nat.le_refl _, by unfold maxLen; omega, ?_, fun h => by cases h⟩
  rcases rin_new (enc := encI) (k := 1) w C T _ rfl xs hC with ⟨h, _⟩ | ⟨b, off, h1, h2, h3⟩
  · cases h
  · exact .inr ⟨b, off, h1, h2, h3⟩
theorem aw_in (w : World) (T1 T2 : Nat) (o3 : Obj) : NetIn (((w.alloc (.cells #[.string ⟨#[65]⟩, .int .i64 0, .int .i64 0, .string ⟨#[66]⟩, .int .i64 0, .int .i64 0] T1)).alloc (.cells #[.string ⟨#[83]⟩, .int .i64 5, .int .i64 0, .int .i64 (-1), .int .i64 0, .string ⟨#[81]⟩, .int .i64 2, .int .i64 0, .int .i64 1, .int .i64 0, .string ⟨#[69]⟩, .int .i64 4, .int .i64 1, .int .i64 (-1), .int .i64 0] T2)).alloc o3)
    (some ⟨w.heap.size, 0, none⟩) (some ⟨w.heap.size + 1, 0, none⟩) 2 2 3 3 awNs awDs where
  nlen := rfl
  dlen := rfl
  nin := ((rin_new (enc := encNd) w _ T1 _ rfl awNs rfl).below (below_box _ _)).below (below_box _ _)
  din := (rin_new (enc := encDv) _ _ T2 _ (by simp) awDs rfl).below (below_box _ _)
  nsz := by
    intro x hx
    simp only [awNs, List.mem_cons, List.not_mem_nil, or_false] at hx
    rcases hx with rfl | rfl <;> decide
  dfit := by
    intro x hx
    simp only [awDs, List.mem_cons, List.not_mem_nil, or_false] at hx
    rcases hx with rfl | rfl | rfl <;> exact ⟨by decide, by decide, by decide, by decide, by decide⟩
  ncap := Nat.le_refl _
  nmax := by decide
  dcap := Nat.le_refl _
  dmax := by decide
set_option maxRecDepth 100000 in
set_option maxHeartbeats 4000000 in
theorem awake_is (w : World) (H : STabs w) :
    Calls Tryd.prog 10 #[] w fun e w' => e = .returned (.bool true) ∧ Below w.heap.size w w' := by
  have ni := aw_in w 67 57 (.cells #[.slice (some ⟨w.heap.size, 0, none⟩) 2 2, .slice (some ⟨w.heap.size + 1, 0, none⟩) 3 3] 26)
  have nt := NtAt.new ((w.alloc (.cells #[.string ⟨#[65]⟩, .int .i64 0, .int .i64 0, .string ⟨#[66]⟩, .int .i64 0, .int .i64 0] 67)).alloc (.cells #[.string ⟨#[83]⟩, .int .i64 5, .int .i64 0, .int .i64 (-1), .int .i64 0, .string ⟨#[81]⟩, .int .i64 2, .int .i64 0, .int .i64 1, .int .i64 0, .string ⟨#[69]⟩, .int .i64 4, .int .i64 1, .int .i64 (-1), .int .i64 0] 57)) (.slice (some ⟨w.heap.size, 0, none⟩) 2 2) (.slice (some ⟨w.heap.size + 1, 0, none⟩) 3 3) 26
  have bw := ((below_box w (.cells #[.string ⟨#[65]⟩, .int .i64 0, .int .i64 0, .string ⟨#[66]⟩, .int .i64 0, .int .i64 0] 67)).alloc (by simp) (.cells #[.string ⟨#[83]⟩, .int .i64 5, .int .i64 0, .int .i64 (-1), .int .i64 0, .string ⟨#[81]⟩, .int .i64 2, .int .i64 0, .int .i64 1, .int .i64 0, .string ⟨#[69]⟩, .int .i64 4, .int .i64 1, .int .i64 (-1), .int .i64 0] 57)).alloc (by simp; omega) (.cells #[.slice (some ⟨w.heap.size, 0, none⟩) 2 2, .slice (some ⟨w.heap.size + 1, 0, none⟩) 3 3] 26)
  rw [World.size_alloc, World.size_alloc] at nt
  have hsz : (((w.alloc (.cells #[.string ⟨#[65]⟩, .int .i64 0, .int .i64 0, .string ⟨#[66]⟩, .int .i64 0, .int .i64 0] 67)).alloc (.cells #[.string ⟨#[83]⟩, .int .i64 5, .int .i64 0, .int .i64 (-1), .int .i64 0, .string ⟨#[81]⟩, .int .i64 2, .int .i64 0, .int .i64 1, .int .i64 0, .string ⟨#[69]⟩, .int .i64 4, .int .i64 1, .int .i64 (-1), .int .i64 0] 57)).alloc (.cells #[.slice (some ⟨w.heap.size, 0, none⟩) 2 2, .slice (some ⟨w.heap.size + 1, 0, none⟩) 3 3] 26)).heap.size = w.heap.size + 1 + 1 + 1 := by simp only [World.size_alloc]
  go_enter Tryd.func10, Tryd.ntmps10
  go_wp2_with fail
  generalize ((w.alloc (.cells #[.string ⟨#[65]⟩, .int .i64 0, .int .i64 0, .string ⟨#[66]⟩, .int .i64 0, .int .i64 0] 67)).alloc (.cells #[.string ⟨#[83]⟩, .int .i64 5, .int .i64 0, .int .i64 (-1), .int .i64 0, .string ⟨#[81]⟩, .int .i64 2, .int .i64 0, .int .i64 1, .int .i64 0, .string ⟨#[69]⟩, .int .i64 4, .int .i64 1, .int .i64 (-1), .int .i64 0] 57)).alloc (.cells #[.slice (some ⟨w.heap.size, 0, none⟩) 2 2, .slice (some ⟨w.heap.size + 1, 0, none⟩) 3 3] 26) = W at *
  have HB := Lib.hid (fun wr (b : Below W.heap.size W wr) => H.below (bw.trans (b.mono bw.size)))
  have NI := Lib.hid (fun wr (b : Below W.heap.size W wr) => ni.below b)
  have BW := Lib.hid bw
  have b4 := below_box W (.cells #[.int .i64 2, .int .i64 2, .int .i64 2] 3)
  have l4 := lin_new W #[.int .i64 2, .int .i64 2, .int .i64 2] 3 [2, 2, 2] 3 rfl (by decide) rfl
  obtain ⟨n0, n1, -⟩ := nt
  rw [hsz] at l4
  refine (Colours_is _ _ _ 2 2 3 3 3 3 awNs awDs [2, 2, 2] 0 _ (HB.out _ b4) (NI.out _ b4) l4 aw_chk).mono ?_
  rintro e w2 ⟨v, rfl, own, b2⟩
  rw [if_pos rfl, aw_col] at own
  obtain ⟨av, cv, rfl, lv, -⟩ := own.lin
  have B2 := Lib.hid (b4.trans (b2.mono b4.size))
  have k0 := (B2.out.cell (p := ⟨w.heap.size + 1 + 1, 0, none⟩) (by show w.heap.size + 1 + 1 < _; omega)).trans n0
  have k1 := (B2.out.cell (p := ⟨w.heap.size + 1 + 1, 1, none⟩) (by show w.heap.size + 1 + 1 < _; omega)).trans n1
  have LV := Lib.hid (fun wr (b : Below w2.heap.size w2 wr) => lv.below b)
  have b5 := below_box w2 (.cells #[.int .i64 2, .int .i64 1, .int .i64 2] 3)
  have F5 := Lib.hid (Faults_is _ _ _ 2 2 3 3 3 3 awNs awDs [2, 1, 2] 0 _ (HB.out _ (B2.out.trans (b5.mono B2.out.size))) (NI.out _ (B2.out.trans (b5.mono B2.out.size))) (lin_new w2 #[.int .i64 2, .int .i64 1, .int .i64 2] 3 [2, 1, 2] 3 rfl (by decide) rfl) aw_chk2)
  have B5 := Lib.hid b5
  clear n0 n1 l4 b4 own lv b2 b5 bw ni H
  go_wp2_with fail
  refine F5.out.mono ?_
  rintro e w3 ⟨v, rfl, own, b3⟩
  rw [if_pos rfl, aw_fau] at own
  obtain ⟨af, cf, rfl, -, -⟩ := own.lin
  have B3 := Lib.hid (B5.out.trans (b3.mono B5.out.size))
  have I3 := Lib.hid (ints_b _ _ _ _ _ _ [3, 3] [3, 3] true _ (LV.out _ (B3.out.trans ((below_box w3 (.cells #[.int .i64 3, .int .i64 3] 3)).mono B3.out.size))) (lin_new w3 #[.int .i64 3, .int .i64 3] 3 [3, 3] 2 rfl (by decide) rfl) (by decide))
  have b6 := below_box w3 (.cells #[.int .i64 3, .int .i64 3] 3)
  have B6 := Lib.hid (BW.out.trans ((B2.out.trans ((B3.out.trans (b6.mono B3.out.size)).mono B2.out.size)).mono BW.out.size))
  clear own b3 F5 k0 k1 b6
  go_wp2_with fail
  refine I3.out.mono ?_
  rintro e w4 ⟨rfl, b7⟩
  have B7 := Lib.hid (B6.out.trans (b7.mono B6.out.size))
  clear b7 I3
  go_wp2
  go_ret
  exact ⟨rfl, B7.out⟩
end Go.Proofs.YtoeojhabhnoojaaDoor.col
