/- The walks of the program's Minutes and Overlap. -/
import Derived.Test.YticehhmfbpjamaaDoorCalV
namespace Go.Proofs.YticehhmfbpjamaaDoor.cal
open Go.RowKit lex uni aggs

theorem union_any (a : Option Addr) (n cap : Nat) (xs : List Sp) (w : World) (hn : xs.length = n) (h : SpIn w a xs) (hl : n ≤ 4294967296) (hv : ∀ s ∈ xs, spOk s = true) :
    Calls Tryd.prog 25 #[.slice a n cap] w (UnPost xs w) := by
  by_cases hp : 0 < n
  · rcases h with ⟨_, rfl⟩ | ⟨b, off, rfl, hb, hc⟩
    · simp at hn; omega
    · exact union_row b off n cap xs w hn hb hp hl hc hv
  · obtain rfl : n = 0 := by omega
    obtain rfl : xs = [] := List.eq_nil_of_length_eq_zero hn
    exact union_nil a cap w h

/-- what Minutes leaves of spans that are valid -/
def MinPost (xs : List Sp) (w : World) (e : Ending) (w' : World) : Prop := ∃ u, IsUnion xs u ∧ e = .returned (.tuple #[.int .i64 (total u), .int .i64 0]) ∧ Below w.heap.size w w'
set_option maxRecDepth 100000 in
set_option maxHeartbeats 1000000 in
theorem minutes_any (a : Option Addr) (n cap : Nat) (xs : List Sp) (w : World) (hn : xs.length = n) (h : SpIn w a xs) (hl : n ≤ 4294967296) (hv : ∀ s ∈ xs, spOk s = true) :
    Calls Tryd.prog 27 #[.slice a n cap] w (MinPost xs w) := by
  have C1 := Lib.hid (union_any a n cap xs w hn h hl hv)
  have HV := Lib.hid hv
  clear hn h hv hl
  go_enter Tryd.func27, Tryd.ntmps27
  go_wp2_with fail
  refine C1.out.mono ?_; rintro e w1 ⟨v, u, rfl, hu, own, b1⟩
  have HU := Lib.hid hu
  have VU := Lib.hid (hu.valid HV.out)
  have hm := (own.length encSp_len).elim fun _ h => h.elim fun _ h => h.2
  obtain ⟨a1, cap1, rfl, hin⟩ := AggsAt.spIn own
  have IN := Lib.hid hin
  obtain ⟨m, hm2⟩ : ∃ m, u.length = m := ⟨_, rfl⟩
  rw [hm2] at hm ⊢
  have HM := Lib.hid hm2
  unfold maxLen at hm
  clear hu own hin hm2
  by_cases hp : 0 < m
  · have hne : u ≠ [] := fun e => by have := HM.out; rw [e] at this; simp at this; omega
    obtain ⟨g, o, rfl, hg, hc⟩ := IN.out.cells hne
    have HC := Lib.hid hc
    have HG := Lib.hid hg
    clear hc hne hg
    go_wp2
    go_loopw [6, 19] (fun s i wr => ∃ j : Nat, j ≤ m ∧ i = .int .i64 j ∧ s = .int .i64 (total (u.take j)) ∧ Below w1.heap.size w1 wr) (fun _ i _ => m - (intOf i).toNat)
    case atStart => exact ⟨0, Nat.zero_le _, rfl, rfl, Below.refl _ _⟩
    case round =>
      obtain ⟨j, hj, rfl, rfl, bel⟩ := hrel
      have ht := total_take_le HU.out.1 VU.out j
      obtain ⟨S, hS⟩ : ∃ S, total (u.take j) = S := ⟨_, rfl⟩
      rw [hS] at ht ⊢
      obtain ⟨t0, t1⟩ := ht
      by_cases hjm : j < m
      · have hju : j < u.length := by rw [HM.out]; exact hjm
        have hs := of_decide_eq_true (VU.out u[j] (List.getElem_mem hju))
        obtain ⟨c0, c1⟩ := HC.out j hju
        rw [← bel.cell (p := ⟨g, o + j * 2, none⟩) HG.out] at c0
        rw [← bel.cell (p := ⟨g, o + j * 2 + 1, none⟩) HG.out] at c1
        have hnx : Hid (total (u.take (j + 1)) = S + ((u[j]).2 - (u[j]).1)) := by
          show total (u.take (j + 1)) = _
          rw [take_next hju, total_snoc, hS]
        obtain ⟨x1, hx1⟩ : ∃ x, u[j].1 = x := ⟨_, rfl⟩
        obtain ⟨x2, hx2⟩ : ∃ x, u[j].2 = x := ⟨_, rfl⟩
        rw [hx1] at c0 hs hnx
        rw [hx2] at c1 hs hnx
        obtain ⟨s0, s1, s2⟩ := hs
        have HS := Lib.hid hS
        clear hS hx1 hx2
        go_wp2
        go_roundw
        case rel => exact ⟨j + 1, by omega, by go_num, by rw [hnx.out], bel.alloc bel.size _⟩
        case measure => simp [intOf]; omega
      · obtain rfl : j = m := by omega
        have HS := Lib.hid hS
        clear hS
        go_wp2
        go_ret2
        refine ⟨u, HU.out, ?_, b1.trans (bel.mono b1.size)⟩
        have := HS.out
        rw [List.take_of_length_le (by rw [HM.out]; exact Nat.le_refl _)] at this
        rw [this]; rfl
  · have hz : u = [] := List.eq_nil_of_length_eq_zero (by rw [HM.out]; omega)
    obtain rfl : m = 0 := by omega
    have HZ := Lib.hid hz
    clear hz hp hm
    go_wp2
    refine wp_loop_rounds 1 ?_; rw [rounds_succ]
    go_wp2
    go_ret2
    exact ⟨u, HU.out, by rw [HZ.out]; rfl, b1⟩

def ovB (a b : Sp) : Bool := spOk a && spOk b && spOk (max a.1 b.1, min a.2 b.2)
def ovV (a b : Sp) : Sp := if ovB a b then (max a.1 b.1, min a.2 b.2) else (0, 0)
theorem ov_end {w w1 : World} (A B C : Obj) (h : Below (((w.alloc A).alloc B).alloc C).heap.size (((w.alloc A).alloc B).alloc C) w1) (x y : Value) : Below w.heap.size w ((w1.setCell ⟨w.heap.size + 1 + 1, 0, none⟩ x).setCell ⟨w.heap.size + 1 + 1, 1, none⟩ y) := by
  have b3 : Below w.heap.size w (((w.alloc A).alloc B).alloc C) := (((Below.refl _ _).alloc (Nat.le_refl _) _).alloc (by simp) _).alloc (by simp; omega) _
  exact ((b3.trans (h.mono (by simp; omega))).setCell (p := ⟨w.heap.size + 1 + 1, 0, none⟩) (by show w.heap.size ≤ w.heap.size + 1 + 1; omega) _).setCell (p := ⟨w.heap.size + 1 + 1, 1, none⟩) (by show w.heap.size ≤ w.heap.size + 1 + 1; omega) _
set_option maxRecDepth 100000 in
set_option maxHeartbeats 1000000 in
theorem overlap_a (a1 a2 b1 b2 : Int) (w : World) (ha : spOk (a1, a2) = false) :
    Calls Tryd.prog 30 #[.agg #[.int .i64 a1, .int .i64 a2], .agg #[.int .i64 b1, .int .i64 b2]] w fun e w' => e = .returned (.tuple #[.agg #[.int .i64 0, .int .i64 0], .bool false]) ∧ Below w.heap.size w w' := by
  have V1 := Lib.hid (fun w => valid_is a1 a2 false ha w)
  clear ha
  go_enter Tryd.func30, Tryd.ntmps30
  go_wp2_with fail
  refine (V1.out _).mono ?_; rintro e w1 ⟨rfl, h1⟩
  obtain ⟨hc, hf⟩ := bcell h1
  have H1 := Lib.hid h1
  clear h1
  go_wp2
  refine bodyPost_ret (v := .tuple #[.agg #[.int .i64 0, .int .i64 0], .bool false]) (by simp [results, Tryd.results30, go_sem, hc]) rfl ⟨rfl, ?_⟩
  exact ov_end _ _ _ H1.out _ _
set_option maxRecDepth 100000 in
set_option maxHeartbeats 1000000 in
theorem overlap_b (a1 a2 b1 b2 : Int) (w : World) (ha : spOk (a1, a2) = true) (hb : spOk (b1, b2) = false) :
    Calls Tryd.prog 30 #[.agg #[.int .i64 a1, .int .i64 a2], .agg #[.int .i64 b1, .int .i64 b2]] w fun e w' => e = .returned (.tuple #[.agg #[.int .i64 0, .int .i64 0], .bool false]) ∧ Below w.heap.size w w' := by
  have V1 := Lib.hid (fun w => valid_is a1 a2 true ha w)
  have V2 := Lib.hid (fun w => valid_is b1 b2 false hb w)
  clear ha hb
  go_enter Tryd.func30, Tryd.ntmps30
  go_wp2_with fail
  refine (V1.out _).mono ?_; rintro e w1 ⟨rfl, h1⟩
  obtain ⟨hc, hf⟩ := bcell h1
  have H1 := Lib.hid h1
  clear h1
  go_wp2_with fail
  refine (V2.out _).mono ?_; rintro e w2 ⟨rfl, h2⟩
  have H2 := Lib.hid (H1.out.trans (h2.mono H1.out.size))
  clear hc hf h2
  obtain ⟨hc, hf⟩ := bcell H2.out
  go_wp2
  refine bodyPost_ret (v := .tuple #[.agg #[.int .i64 0, .int .i64 0], .bool false]) (by simp [results, Tryd.results30, go_sem, hc]) rfl ⟨rfl, ?_⟩
  exact ov_end _ _ _ H2.out _ _
set_option maxRecDepth 100000 in
set_option maxHeartbeats 1000000 in
theorem overlap_c (a1 a2 b1 b2 : Int) (w : World) (ha : spOk (a1, a2) = true) (hb : spOk (b1, b2) = true) (hx : spOk (max a1 b1, min a2 b2) = false) :
    Calls Tryd.prog 30 #[.agg #[.int .i64 a1, .int .i64 a2], .agg #[.int .i64 b1, .int .i64 b2]] w fun e w' => e = .returned (.tuple #[.agg #[.int .i64 0, .int .i64 0], .bool false]) ∧ Below w.heap.size w w' := by
  have V1 := Lib.hid (fun w => valid_is a1 a2 true ha w)
  have V2 := Lib.hid (fun w => valid_is b1 b2 true hb w)
  have V3 := Lib.hid (fun w => valid_is (max a1 b1) (min a2 b2) false hx w)
  clear ha hb hx
  go_enter Tryd.func30, Tryd.ntmps30
  go_wp2_with fail
  refine (V1.out _).mono ?_; rintro e w1 ⟨rfl, h1⟩
  obtain ⟨hc, hf⟩ := bcell h1
  have H1 := Lib.hid h1
  clear h1
  go_wp2_with fail
  refine (V2.out _).mono ?_; rintro e w2 ⟨rfl, h2⟩
  have H2 := Lib.hid (H1.out.trans (h2.mono H1.out.size))
  clear hc hf h2
  obtain ⟨hc, hf⟩ := bcell H2.out
  go_wp2_with fail
  refine (V3.out _).mono ?_; rintro e w3 ⟨rfl, h3⟩
  have H3 := Lib.hid ((H2.out.alloc H2.out.size (.cells #[.int .i64 (max a1 b1), .int .i64 (min a2 b2)] 43)).trans (h3.mono (by have := H2.out.size; simp at this ⊢; omega)))
  have q0 := h3.cell (p := ⟨w2.heap.size, 0, none⟩) (by simp)
  have q1 := h3.cell (p := ⟨w2.heap.size, 1, none⟩) (by simp)
  rw [World.cell?_alloc_new] at q0 q1
  clear hc hf h3
  obtain ⟨hc, hf⟩ := bcell H3.out
  go_wp2
  refine bodyPost_ret (v := .tuple #[.agg #[.int .i64 0, .int .i64 0], .bool false]) (by simp [results, Tryd.results30, go_sem, hc]) rfl ⟨rfl, ?_⟩
  exact ov_end _ _ _ H3.out _ _
set_option maxRecDepth 100000 in
set_option maxHeartbeats 1000000 in
theorem overlap_ok (a1 a2 b1 b2 : Int) (w : World) (ha : spOk (a1, a2) = true) (hb : spOk (b1, b2) = true) (hx : spOk (max a1 b1, min a2 b2) = true) :
    Calls Tryd.prog 30 #[.agg #[.int .i64 a1, .int .i64 a2], .agg #[.int .i64 b1, .int .i64 b2]] w fun e w' => e = .returned (.tuple #[.agg #[.int .i64 (max a1 b1), .int .i64 (min a2 b2)], .bool true]) ∧ Below w.heap.size w w' := by
  have V1 := Lib.hid (fun w => valid_is a1 a2 true ha w)
  have V2 := Lib.hid (fun w => valid_is b1 b2 true hb w)
  have V3 := Lib.hid (fun w => valid_is (max a1 b1) (min a2 b2) true hx w)
  clear ha hb hx
  go_enter Tryd.func30, Tryd.ntmps30
  go_wp2_with fail
  refine (V1.out _).mono ?_; rintro e w1 ⟨rfl, h1⟩
  obtain ⟨hc, hf⟩ := bcell h1
  have H1 := Lib.hid h1
  clear h1
  go_wp2_with fail
  refine (V2.out _).mono ?_; rintro e w2 ⟨rfl, h2⟩
  have H2 := Lib.hid (H1.out.trans (h2.mono H1.out.size))
  clear hc hf h2
  obtain ⟨hc, hf⟩ := bcell H2.out
  go_wp2_with fail
  refine (V3.out _).mono ?_; rintro e w3 ⟨rfl, h3⟩
  have H3 := Lib.hid ((H2.out.alloc H2.out.size (.cells #[.int .i64 (max a1 b1), .int .i64 (min a2 b2)] 43)).trans (h3.mono (by have := H2.out.size; simp at this ⊢; omega)))
  have q0 := h3.cell (p := ⟨w2.heap.size, 0, none⟩) (by simp)
  have q1 := h3.cell (p := ⟨w2.heap.size, 1, none⟩) (by simp)
  rw [World.cell?_alloc_new] at q0 q1
  clear hc hf h3
  obtain ⟨hc, hf⟩ := bcell H3.out
  go_wp2
  refine bodyPost_ret (v := .tuple #[.agg #[.int .i64 (max a1 b1), .int .i64 (min a2 b2)], .bool true]) (by simp [results, Tryd.results30, go_sem, hc]) rfl ⟨rfl, ?_⟩
  exact ov_end _ _ _ H3.out _ _
theorem overlap_is (a b : Sp) (v1 v2 : Int) (t : Bool) (hv : ovV a b = (v1, v2)) (ht : ovB a b = t) (w : World) :
    Calls Tryd.prog 30 #[.agg #[.int .i64 a.1, .int .i64 a.2], .agg #[.int .i64 b.1, .int .i64 b.2]] w fun e w' => e = .returned (.tuple #[.agg #[.int .i64 v1, .int .i64 v2], .bool t]) ∧ Below w.heap.size w w' := by
  subst ht
  unfold ovV at hv
  obtain ⟨a1, a2⟩ := a
  obtain ⟨b1, b2⟩ := b
  unfold ovB at hv ⊢
  by_cases ha : spOk (a1, a2) = true
  · by_cases hb : spOk (b1, b2) = true
    · by_cases hx : spOk (max a1 b1, min a2 b2) = true
      · rw [ha, hb] at hv ⊢
        simp only [hx, Bool.and_self, if_true] at hv ⊢
        injection hv with e1 e2
        subst e1 e2
        exact overlap_ok a1 a2 b1 b2 w ha hb hx
      · have hx' := Bool.eq_false_iff.2 hx
        rw [ha, hb] at hv ⊢
        simp only [hx', Bool.and_false] at hv ⊢
        rw [if_neg Bool.false_ne_true] at hv
        injection hv with e1 e2
        subst e1 e2
        exact overlap_c a1 a2 b1 b2 w ha hb hx'
    · have hb' := Bool.eq_false_iff.2 hb
      rw [ha, hb'] at hv ⊢
      simp only [Bool.and_false, Bool.false_and] at hv ⊢
      rw [if_neg Bool.false_ne_true] at hv
      injection hv with e1 e2
      subst e1 e2
      exact overlap_b a1 a2 b1 b2 w ha hb'
  · have ha' := Bool.eq_false_iff.2 ha
    rw [ha'] at hv ⊢
    simp only [Bool.false_and] at hv ⊢
    rw [if_neg Bool.false_ne_true] at hv
    injection hv with e1 e2
    subst e1 e2
    exact overlap_a a1 a2 b1 b2 w ha'
end Go.Proofs.YticehhmfbpjamaaDoor.cal
