/- Union and Minutes where a span is not valid, of the program and of the reference; the reference's Minutes and Overlap. -/
import Derived.Test.YticehhmfbpjamaaDoorCalD
import Derived.Test.YticehhmfbpjamaaDoorCalW
namespace Go.Proofs.YticehhmfbpjamaaDoor.cal
open Go.RowKit lex uni aggs deck kit

theorem runion_any (a : Option Addr) (n cap : Nat) (xs : List Sp) (w : World) (hn : xs.length = n) (h : SpIn w a xs) (hl : n ≤ 65536) (hv : ∀ s ∈ xs, spOk s = true) :
    Calls Tryd.prog 26 #[.slice a n cap] w (UnPost xs w) := by
  by_cases hp : 0 < n
  · rcases h with ⟨_, rfl⟩ | ⟨b, off, rfl, hb, hc⟩
    · simp at hn; omega
    · exact runion_row b off n cap xs w hn hb hp hl hc hv
  · obtain rfl : n = 0 := by omega
    obtain rfl : xs = [] := List.eq_nil_of_length_eq_zero hn
    exact runion_nil a cap w
set_option maxRecDepth 100000 in
set_option maxHeartbeats 1000000 in
theorem rminutes_any (a : Option Addr) (n cap : Nat) (xs : List Sp) (w : World) (hn : xs.length = n) (h : SpIn w a xs) (hl : n ≤ 65536) (hv : ∀ s ∈ xs, spOk s = true) :
    Calls Tryd.prog 28 #[.slice a n cap] w (MinPost xs w) := by
  have C1 := Lib.hid (runion_any a n cap xs w hn h hl hv)
  have HV := Lib.hid hv
  clear hn h hv hl
  go_enter Tryd.func28, Tryd.ntmps28
  go_wp2_with fail
  refine C1.out.mono ?_; rintro e w1 ⟨v, u, rfl, hu, own, b1⟩
  have HU := Lib.hid hu
  have VU := Lib.hid (hu.valid HV.out)
  have hm := (own.length encSp_len).elim fun _ h => h.elim fun _ h => h.2
  obtain ⟨a1, cap1, rfl, hin⟩ := AggsAt.spIn own
  have IN := Lib.hid hin
  obtain ⟨m, hm2⟩ : ∃ m, u.length = m := ⟨_, rfl⟩
  rw [hm2] at hm ⊢
  have HM := Lib.hid hm2
  unfold maxLen at hm
  clear hu own hin hm2
  by_cases hp : 0 < m
  · have hne : u ≠ [] := fun e => by have := HM.out; rw [e] at this; simp at this; omega
    obtain ⟨g, o, rfl, hg, hc⟩ := IN.out.cells hne
    have HC := Lib.hid hc
    have HG := Lib.hid hg
    clear hc hne hg
    go_wp2
    go_loopw [6, 7] (fun s i wr => ∃ j : Nat, j ≤ m ∧ i = .int .i64 j ∧ s = .int .i64 (total (u.take j)) ∧ Below w1.heap.size w1 wr) (fun _ i _ => m - (intOf i).toNat)
    case atStart => exact ⟨0, Nat.zero_le _, rfl, rfl, Below.refl _ _⟩
    case round =>
      obtain ⟨j, hj, rfl, rfl, bel⟩ := hrel
      have ht := total_take_le HU.out.1 VU.out j
      obtain ⟨S, hS⟩ : ∃ S, total (u.take j) = S := ⟨_, rfl⟩
      rw [hS] at ht ⊢
      obtain ⟨t0, t1⟩ := ht
      by_cases hjm : j < m
      · have hju : j < u.length := by rw [HM.out]; exact hjm
        have hs := of_decide_eq_true (VU.out u[j] (List.getElem_mem hju))
        obtain ⟨c0, c1⟩ := HC.out j hju
        rw [← bel.cell (p := ⟨g, o + j * 2, none⟩) HG.out] at c0
        rw [← bel.cell (p := ⟨g, o + j * 2 + 1, none⟩) HG.out] at c1
        have hnx : Hid (total (u.take (j + 1)) = S + ((u[j]).2 - (u[j]).1)) := by
          show total (u.take (j + 1)) = _
          rw [take_next hju, total_snoc, hS]
        obtain ⟨x1, hx1⟩ : ∃ x, u[j].1 = x := ⟨_, rfl⟩
        obtain ⟨x2, hx2⟩ : ∃ x, u[j].2 = x := ⟨_, rfl⟩
        rw [hx1] at c0 hs hnx
        rw [hx2] at c1 hs hnx
        obtain ⟨s0, s1, s2⟩ := hs
        have HS := Lib.hid hS
        clear hS hx1 hx2
        go_wp2
        go_quiet (fail)
        go_wp2
        go_roundw
        case rel => exact ⟨j + 1, by omega, by go_num, by rw [hnx.out], below_drewN bel _⟩
        case measure => simp [intOf]; omega
      · obtain rfl : j = m := by omega
        have HS := Lib.hid hS
        clear hS
        go_wp2
        go_ret2
        refine ⟨u, HU.out, ?_, b1.trans (bel.mono b1.size)⟩
        have := HS.out
        rw [List.take_of_length_le (by rw [HM.out]; exact Nat.le_refl _)] at this
        rw [this]; rfl
  · have hz : u = [] := List.eq_nil_of_length_eq_zero (by rw [HM.out]; omega)
    obtain rfl : m = 0 := by omega
    have HZ := Lib.hid hz
    clear hz hp hm
    go_wp2
    refine wp_loop_rounds 1 ?_; rw [rounds_succ]
    go_wp2
    go_ret2
    exact ⟨u, HU.out, by rw [HZ.out]; rfl, b1⟩

/-- the first span that is not valid, if there is one -/
theorem first_bad : ∀ (xs : List Sp), (∀ s ∈ xs, spOk s = true) ∨ ∃ j0, ∃ h : j0 < xs.length, spOk xs[j0] = false ∧ ∀ i (hi : i < xs.length), i < j0 → spOk xs[i] = true
  | [] => .inl (by simp)
  | a :: l => by
    by_cases ha : spOk a = true
    · rcases first_bad l with h | ⟨j0, h, h1, h2⟩
      · left
        intro s hs
        rcases List.mem_cons.1 hs with rfl | hs
        · exact ha
        · exact h s hs
      · right
        refine ⟨j0 + 1, by simpa using h, by simpa using h1, fun i hi hlt => ?_⟩
        cases i with
        | zero => simpa using ha
        | succ i => simpa using h2 i (by simpa using hi) (by omega)
    · right
      exact ⟨0, by simp, by simpa using ha, fun i hi h => absurd h (by omega)⟩

set_option maxRecDepth 100000 in
set_option maxHeartbeats 1000000 in
theorem union_bad (a : Option Addr) (n cap : Nat) (xs : List Sp) (w : World) (hn : xs.length = n) (h : SpIn w a xs) (hl : n ≤ 65536) (j0 : Nat) (hj0 : j0 < xs.length) (h1 : spOk xs[j0] = false) (h2 : ∀ i (hi : i < xs.length), i < j0 → spOk xs[i] = true) :
    Calls Tryd.prog 25 #[.slice a n cap] w (BadPost w) := by
  have HX : Hid (xs ≠ []) := fun e => by rw [e] at hj0; simp at hj0
  obtain ⟨b, off, rfl, hb, -⟩ := h.cells HX.out
  have HN := Lib.hid hn
  have HIN := Lib.hid h
  have H1 := Lib.hid h1
  have H2 := Lib.hid h2
  have hjn : j0 < n := by omega
  clear hn h h1 h2
  go_enter Tryd.func25, Tryd.ntmps25
  go_wp2
  go_loopw [13] (fun i wr => ∃ k : Nat, k ≤ j0 ∧ i = .int .i64 k ∧ Below w.heap.size w wr) (fun i _ => n - (intOf i).toNat)
  case atStart => exact ⟨0, Nat.zero_le _, rfl, Below.refl _ _⟩
  case round =>
    obtain ⟨k, hk, rfl, bel⟩ := hrel
    obtain ⟨b', off', e1, hb1, hc⟩ := (HIN.out.below bel).cells HX.out
    obtain ⟨rfl, rfl⟩ : b = b' ∧ off = off' := by injection e1 with e1; injection e1 with e2 e3; exact ⟨e2, e3⟩
    have hkx : k < xs.length := by omega
    have hkn : k < n := by omega
    obtain ⟨c0, c1⟩ := hc k hkx
    obtain ⟨ok, hok⟩ : ∃ b, spOk xs[k] = b := ⟨_, rfl⟩
    have HK : Hid (ok = true ↔ k < j0) := by
      show _ ↔ _
      constructor
      · intro e
        rcases Nat.lt_or_ge k j0 with h | h
        · exact h
        · exfalso
          have ej : k = j0 := by omega
          subst ej
          rw [e] at hok
          exact Bool.false_ne_true (H1.out.symm.trans hok)
      · intro h
        rw [← hok]; exact H2.out k hkx h
    obtain ⟨x1, hx1⟩ : ∃ x, xs[k].1 = x := ⟨_, rfl⟩
    obtain ⟨x2, hx2⟩ : ∃ x, xs[k].2 = x := ⟨_, rfl⟩
    rw [hx1] at c0
    rw [hx2] at c1
    have hok' : spOk (x1, x2) = ok := by rw [← hx1, ← hx2]; exact hok
    have C1 := Lib.hid (fun w => valid_is x1 x2 ok hok' w)
    clear e1 hc hok hok' hx1 hx2 hb1
    go_wp2_with fail
    refine (C1.out _).mono ?_; rintro e w5 ⟨rfl, b5⟩
    have BB := Lib.hid ((bel.alloc bel.size (.cells #[.int .i64 x1, .int .i64 x2] 43)).trans (b5.mono (by simp; have := bel.size; omega)))
    clear b5
    cases ok
    · go_wp2
      go_ret2
      exact ⟨rfl, BB.out⟩
    · have := HK.out.1 rfl
      go_wp2
      go_roundw
      case rel => exact ⟨k + 1, by omega, by go_num, BB.out⟩
      case measure => simp [intOf]; omega

set_option maxRecDepth 100000 in
set_option maxHeartbeats 1000000 in
theorem runion_bad (a : Option Addr) (n cap : Nat) (xs : List Sp) (w : World) (hn : xs.length = n) (h : SpIn w a xs) (hl : n ≤ 65536) (j0 : Nat) (hj0 : j0 < xs.length) (h1 : spOk xs[j0] = false) (h2 : ∀ i (hi : i < xs.length), i < j0 → spOk xs[i] = true) :
    Calls Tryd.prog 26 #[.slice a n cap] w (BadPost w) := by
  have HX : Hid (xs ≠ []) := fun e => by rw [e] at hj0; simp at hj0
  obtain ⟨b, off, rfl, hb, -⟩ := h.cells HX.out
  have HN := Lib.hid hn
  have HIN := Lib.hid h
  have H1 := Lib.hid h1
  have H2 := Lib.hid h2
  have hjn : j0 < n := by omega
  clear hn h h1 h2
  go_enter Tryd.func26, Tryd.ntmps26
  go_wp2
  go_loopw [5] (fun i wr => ∃ k : Nat, k ≤ j0 ∧ i = .int .i64 k ∧ Below w.heap.size w wr) (fun i _ => n - (intOf i).toNat)
  case atStart => exact ⟨0, Nat.zero_le _, rfl, Below.refl _ _⟩
  case round =>
    obtain ⟨k, hk, rfl, bel⟩ := hrel
    obtain ⟨b', off', e1, hb1, hc⟩ := (HIN.out.below bel).cells HX.out
    obtain ⟨rfl, rfl⟩ : b = b' ∧ off = off' := by injection e1 with e1; injection e1 with e2 e3; exact ⟨e2, e3⟩
    have hkx : k < xs.length := by omega
    have hkn : k < n := by omega
    obtain ⟨c0, c1⟩ := hc k hkx
    obtain ⟨ok, hok⟩ : ∃ b, spOk xs[k] = b := ⟨_, rfl⟩
    have HK : Hid (ok = true ↔ k < j0) := by
      show _ ↔ _
      constructor
      · intro e
        rcases Nat.lt_or_ge k j0 with h | h
        · exact h
        · exfalso
          have ej : k = j0 := by omega
          subst ej
          rw [e] at hok
          exact Bool.false_ne_true (H1.out.symm.trans hok)
      · intro h
        rw [← hok]; exact H2.out k hkx h
    obtain ⟨x1, hx1⟩ : ∃ x, xs[k].1 = x := ⟨_, rfl⟩
    obtain ⟨x2, hx2⟩ : ∃ x, xs[k].2 = x := ⟨_, rfl⟩
    rw [hx1] at c0
    rw [hx2] at c1
    have hok' : spOk (x1, x2) = ok := by rw [← hx1, ← hx2]; exact hok
    have C1 := Lib.hid (fun w => rvalid_is x1 x2 ok hok' w)
    clear e1 hc hok hok' hx1 hx2 hb1
    go_wp2_with fail
    refine (C1.out _).mono ?_; rintro e w5 ⟨rfl, b5⟩
    have BB := Lib.hid (bel.trans (b5.mono bel.size))
    clear b5
    cases ok
    · go_wp2
      go_ret2
      exact ⟨rfl, BB.out⟩
    · have := HK.out.1 rfl
      go_wp2
      go_roundw
      case rel => exact ⟨k + 1, by omega, by go_num, BB.out⟩
      case measure => simp [intOf]; omega

set_option maxRecDepth 100000 in
theorem minutes_bad (a : Option Addr) (n cap : Nat) (xs : List Sp) (w : World) (hn : xs.length = n) (h : SpIn w a xs) (hl : n ≤ 65536) (j0 : Nat) (hj0 : j0 < xs.length) (h1 : spOk xs[j0] = false) (h2 : ∀ i (hi : i < xs.length), i < j0 → spOk xs[i] = true) :
    Calls Tryd.prog 27 #[.slice a n cap] w fun e w' => e = .returned (.tuple #[.int .i64 0, .int .i64 11]) ∧ Below w.heap.size w w' := by
  have C1 := Lib.hid (union_bad a n cap xs w hn h hl j0 hj0 h1 h2)
  clear hn h hl hj0 h1 h2
  go_enter Tryd.func27, Tryd.ntmps27
  go_wp2_with fail
  refine C1.out.mono ?_; rintro e w1 ⟨rfl, b1⟩
  go_wp2
  go_ret2
  exact ⟨rfl, b1⟩

set_option maxRecDepth 100000 in
theorem rminutes_bad (a : Option Addr) (n cap : Nat) (xs : List Sp) (w : World) (hn : xs.length = n) (h : SpIn w a xs) (hl : n ≤ 65536) (j0 : Nat) (hj0 : j0 < xs.length) (h1 : spOk xs[j0] = false) (h2 : ∀ i (hi : i < xs.length), i < j0 → spOk xs[i] = true) :
    Calls Tryd.prog 28 #[.slice a n cap] w fun e w' => e = .returned (.tuple #[.int .i64 0, .int .i64 11]) ∧ Below w.heap.size w w' := by
  have C1 := Lib.hid (runion_bad a n cap xs w hn h hl j0 hj0 h1 h2)
  clear hn h hl hj0 h1 h2
  go_enter Tryd.func28, Tryd.ntmps28
  go_wp2_with fail
  refine C1.out.mono ?_; rintro e w1 ⟨rfl, b1⟩
  go_wp2
  refine wp_loop_rounds 1 ?_; rw [rounds_succ]
  go_wp2
  go_ret2
  exact ⟨rfl, b1⟩

theorem rov_end {w w1 : World} (A B C D : Obj) (h : Below ((((w.alloc A).alloc B).alloc C).alloc D).heap.size ((((w.alloc A).alloc B).alloc C).alloc D) w1) (x y : Value) : Below w.heap.size w ((w1.setCell ⟨w.heap.size + 1 + 1, 0, none⟩ x).setCell ⟨w.heap.size + 1 + 1, 1, none⟩ y) := by
  have b3 : Below w.heap.size w ((((w.alloc A).alloc B).alloc C).alloc D) := ((((Below.refl _ _).alloc (Nat.le_refl _) _).alloc (by simp) _).alloc (by simp; omega) _).alloc (by simp; omega) _
  exact ((b3.trans (h.mono (by simp; omega))).setCell (p := ⟨w.heap.size + 1 + 1, 0, none⟩) (by show w.heap.size ≤ w.heap.size + 1 + 1; omega) _).setCell (p := ⟨w.heap.size + 1 + 1, 1, none⟩) (by show w.heap.size ≤ w.heap.size + 1 + 1; omega) _

set_option maxRecDepth 100000 in
set_option maxHeartbeats 1000000 in
theorem roverlap_a (a1 a2 b1 b2 : Int) (w : World) (ha : spOk (a1, a2) = false) :
    Calls Tryd.prog 31 #[.agg #[.int .i64 a1, .int .i64 a2], .agg #[.int .i64 b1, .int .i64 b2]] w fun e w' => e = .returned (.tuple #[.agg #[.int .i64 0, .int .i64 0], .bool false]) ∧ Below w.heap.size w w' := by
  have V1 := Lib.hid (fun w => rvalid_is (a1) (a2) false ha w)
  clear ha
  go_enter Tryd.func31, Tryd.ntmps31
  go_wp2_with fail
  refine (V1.out _).mono ?_; rintro e w1 ⟨rfl, h1⟩
  obtain ⟨hc, hf⟩ := bcell h1
  have H1 := Lib.hid h1
  clear h1
  go_wp2
  refine bodyPost_ret (v := .tuple #[.agg #[.int .i64 0, .int .i64 0], .bool false]) (by simp [results, Tryd.results31, go_sem, hc]) rfl ⟨rfl, ?_⟩
  exact rov_end _ _ _ _ H1.out _ _

set_option maxRecDepth 100000 in
set_option maxHeartbeats 1000000 in
theorem roverlap_b (a1 a2 b1 b2 : Int) (w : World) (ha : spOk (a1, a2) = true) (hb : spOk (b1, b2) = false) :
    Calls Tryd.prog 31 #[.agg #[.int .i64 a1, .int .i64 a2], .agg #[.int .i64 b1, .int .i64 b2]] w fun e w' => e = .returned (.tuple #[.agg #[.int .i64 0, .int .i64 0], .bool false]) ∧ Below w.heap.size w w' := by
  have V1 := Lib.hid (fun w => rvalid_is (a1) (a2) true ha w)
  have V2 := Lib.hid (fun w => rvalid_is (b1) (b2) false hb w)
  clear ha hb
  go_enter Tryd.func31, Tryd.ntmps31
  go_wp2_with fail
  refine (V1.out _).mono ?_; rintro e w1 ⟨rfl, h1⟩
  obtain ⟨hc, hf⟩ := bcell h1
  have H1 := Lib.hid h1
  clear h1
  go_wp2_with fail
  refine (V2.out _).mono ?_; rintro e w2 ⟨rfl, h2⟩
  have H2 := Lib.hid (H1.out.trans (h2.mono H1.out.size))
  clear hc hf h2
  obtain ⟨hc, hf⟩ := bcell H2.out
  go_wp2
  refine bodyPost_ret (v := .tuple #[.agg #[.int .i64 0, .int .i64 0], .bool false]) (by simp [results, Tryd.results31, go_sem, hc]) rfl ⟨rfl, ?_⟩
  exact rov_end _ _ _ _ H2.out _ _

set_option maxRecDepth 100000 in
set_option maxHeartbeats 1000000 in
theorem roverlap_c (a1 a2 b1 b2 : Int) (w : World) (ha : spOk (a1, a2) = true) (hb : spOk (b1, b2) = true) (hx : spOk (max a1 b1, min a2 b2) = false) :
    Calls Tryd.prog 31 #[.agg #[.int .i64 a1, .int .i64 a2], .agg #[.int .i64 b1, .int .i64 b2]] w fun e w' => e = .returned (.tuple #[.agg #[.int .i64 0, .int .i64 0], .bool false]) ∧ Below w.heap.size w w' := by
  have V1 := Lib.hid (fun w => rvalid_is (a1) (a2) true ha w)
  have V2 := Lib.hid (fun w => rvalid_is (b1) (b2) true hb w)
  have V3 := Lib.hid (fun w => rvalid_is (max a1 b1) (min a2 b2) false hx w)
  clear ha hb hx
  go_enter Tryd.func31, Tryd.ntmps31
  go_wp2_with fail
  refine (V1.out _).mono ?_; rintro e w1 ⟨rfl, h1⟩
  obtain ⟨hc, hf⟩ := bcell h1
  have H1 := Lib.hid h1
  clear h1
  go_wp2_with fail
  refine (V2.out _).mono ?_; rintro e w2 ⟨rfl, h2⟩
  have H2 := Lib.hid (H1.out.trans (h2.mono H1.out.size))
  clear hc hf h2
  obtain ⟨hc, hf⟩ := bcell H2.out
  go_wp2_with fail
  refine (V3.out _).mono ?_; rintro e w3 ⟨rfl, h3⟩
  have H3 := Lib.hid (H2.out.trans (h3.mono H2.out.size))
  clear hc hf h3
  obtain ⟨hc, hf⟩ := bcell H3.out
  go_wp2
  refine bodyPost_ret (v := .tuple #[.agg #[.int .i64 0, .int .i64 0], .bool false]) (by simp [results, Tryd.results31, go_sem, hc]) rfl ⟨rfl, ?_⟩
  exact rov_end _ _ _ _ H3.out _ _

set_option maxRecDepth 100000 in
set_option maxHeartbeats 1000000 in
theorem roverlap_ok (a1 a2 b1 b2 : Int) (w : World) (ha : spOk (a1, a2) = true) (hb : spOk (b1, b2) = true) (hx : spOk (max a1 b1, min a2 b2) = true) :
    Calls Tryd.prog 31 #[.agg #[.int .i64 a1, .int .i64 a2], .agg #[.int .i64 b1, .int .i64 b2]] w fun e w' => e = .returned (.tuple #[.agg #[.int .i64 (max a1 b1), .int .i64 (min a2 b2)], .bool true]) ∧ Below w.heap.size w w' := by
  have V1 := Lib.hid (fun w => rvalid_is (a1) (a2) true ha w)
  have V2 := Lib.hid (fun w => rvalid_is (b1) (b2) true hb w)
  have V3 := Lib.hid (fun w => rvalid_is (max a1 b1) (min a2 b2) true hx w)
  clear ha hb hx
  go_enter Tryd.func31, Tryd.ntmps31
  go_wp2_with fail
  refine (V1.out _).mono ?_; rintro e w1 ⟨rfl, h1⟩
  obtain ⟨hc, hf⟩ := bcell h1
  have H1 := Lib.hid h1
  clear h1
  go_wp2_with fail
  refine (V2.out _).mono ?_; rintro e w2 ⟨rfl, h2⟩
  have H2 := Lib.hid (H1.out.trans (h2.mono H1.out.size))
  clear hc hf h2
  obtain ⟨hc, hf⟩ := bcell H2.out
  go_wp2_with fail
  refine (V3.out _).mono ?_; rintro e w3 ⟨rfl, h3⟩
  have H3 := Lib.hid (H2.out.trans (h3.mono H2.out.size))
  clear hc hf h3
  obtain ⟨hc, hf⟩ := bcell H3.out
  go_wp2
  refine bodyPost_ret (v := .tuple #[.agg #[.int .i64 (max a1 b1), .int .i64 (min a2 b2)], .bool true]) (by simp [results, Tryd.results31, go_sem, hc]) rfl ⟨rfl, ?_⟩
  exact rov_end _ _ _ _ H3.out _ _
theorem roverlap_is (a b : Sp) (v1 v2 : Int) (t : Bool) (hv : ovV a b = (v1, v2)) (ht : ovB a b = t) (w : World) :
    Calls Tryd.prog 31 #[.agg #[.int .i64 a.1, .int .i64 a.2], .agg #[.int .i64 b.1, .int .i64 b.2]] w fun e w' => e = .returned (.tuple #[.agg #[.int .i64 v1, .int .i64 v2], .bool t]) ∧ Below w.heap.size w w' := by
  subst ht
  unfold ovV at hv
  obtain ⟨a1, a2⟩ := a
  obtain ⟨b1, b2⟩ := b
  unfold ovB at hv ⊢
  by_cases ha : spOk (a1, a2) = true
  · by_cases hb : spOk (b1, b2) = true
    · by_cases hx : spOk (max a1 b1, min a2 b2) = true
      · rw [ha, hb] at hv ⊢
        simp only [hx, Bool.and_self, if_true] at hv ⊢
        injection hv with e1 e2
        subst e1 e2
        exact roverlap_ok a1 a2 b1 b2 w ha hb hx
      · have hx' := Bool.eq_false_iff.2 hx
        rw [ha, hb] at hv ⊢
        simp only [hx', Bool.and_false] at hv ⊢
        rw [if_neg Bool.false_ne_true] at hv
        injection hv with e1 e2
        subst e1 e2
        exact roverlap_c a1 a2 b1 b2 w ha hb hx'
    · have hb' := Bool.eq_false_iff.2 hb
      rw [ha, hb'] at hv ⊢
      simp only [Bool.and_false, Bool.false_and] at hv ⊢
      rw [if_neg Bool.false_ne_true] at hv
      injection hv with e1 e2
      subst e1 e2
      exact roverlap_b a1 a2 b1 b2 w ha hb'
  · have ha' := Bool.eq_false_iff.2 ha
    rw [ha'] at hv ⊢
    simp only [Bool.false_and] at hv ⊢
    rw [if_neg Bool.false_ne_true] at hv
    injection hv with e1 e2
    subst e1 e2
    exact roverlap_a a1 a2 b1 b2 w ha'
end Go.Proofs.YticehhmfbpjamaaDoor.cal
