/- For every list of numbers NetworkAt returns true: the devices at nodes are all devices, those that join twice, and Other leads back. Condition: the table 'classes' holds what the program's text lays (the card ties that). -/
import Derived.Test.YtleggojgcaefdaaDoorNetN
namespace Go.Proofs.YtleggojgcaefdaaDoor.net
open Go.RowKit lex aggs kit deck

set_option maxRecDepth 100000 in
theorem rjoins_is (k : Int) (b : Bool) (hb : decide (1 ≤ k ∧ k ≤ 3) = b) (w : World) :
    Calls Tryd.prog 32 #[.int .i64 k] w fun e w' => e = .returned (.bool b) ∧ w = w' := by
  subst hb
  by_cases h1 : k = 1
  · subst h1
    go_enter Tryd.func32, Tryd.ntmps32
    go_wp2
    go_ret
    exact ⟨rfl, rfl⟩
  · by_cases h2 : k = 2
    · subst h2
      go_enter Tryd.func32, Tryd.ntmps32
      go_wp2
      go_ret
      exact ⟨rfl, rfl⟩
    · by_cases h3 : k = 3
      · subst h3
        go_enter Tryd.func32, Tryd.ntmps32
        go_wp2
        go_ret
        exact ⟨rfl, rfl⟩
      · have e : decide (1 ≤ k ∧ k ≤ 3) = false := decide_eq_false (by omega)
        rw [e]
        have T1 : (k == 1) = false := beq_eq_false_iff_ne.2 h1
        have T2 : (k == 2) = false := beq_eq_false_iff_ne.2 h2
        have T3 : (k == 3) = false := beq_eq_false_iff_ne.2 h3
        clear e h1 h2 h3
        go_enter Tryd.func32, Tryd.ntmps32
        go_wp2
        go_ret
        exact ⟨rfl, rfl⟩
/-- a row of counts -/
def Cnts (w : World) (b M : Nat) (c : Nat → Int) : Prop := ∃ A T, w.heap[b]? = some (.cells A T (0, 0)) ∧ A.size = M ∧ ∀ t, t < M → A[t]? = some (.int .i64 (c t))
theorem Cnts.get {w : World} {b M : Nat} {f : Nat → Int} (h : Cnts w b M f) {t : Nat} (ht : t < M) : w.cell? ⟨b, t, none⟩ = some (.int .i64 (f t)) ∧ w.frozen? ⟨b, t, none⟩ = false := by
  obtain ⟨A, T, h1, h2, h3⟩ := h
  have := h3 t ht
  exact ⟨by simp [World.cell?, h1, this], by simp [World.frozen?, h1]⟩
theorem Cnts.lt {w : World} {b M : Nat} {f : Nat → Int} (h : Cnts w b M f) : b < w.heap.size := by obtain ⟨A, T, h1, _⟩ := h; exact lt_of_block h1
theorem Cnts.below {w w' : World} {b M : Nat} {f : Nat → Int} (h : Cnts w b M f) (hb : Below w.heap.size w w') : Cnts w' b M f := by
  have hl := h.lt
  obtain ⟨A, T, h1, h2⟩ := h
  exact ⟨A, T, by rw [hb.block b hl]; exact h1, h2⟩
theorem Cnts.congr {w : World} {b M : Nat} {f g : Nat → Int} (h : Cnts w b M f) (e : ∀ t, t < M → f t = g t) : Cnts w b M g := by
  obtain ⟨A, T, h1, h2, h3⟩ := h
  exact ⟨A, T, h1, h2, fun t ht => by rw [h3 t ht, e t ht]⟩
theorem Cnts.set {w : World} {b M : Nat} {f : Nat → Int} (h : Cnts w b M f) (t : Nat) (ht : t < M) (x : Int) : Cnts (w.setCell ⟨b, t, none⟩ (.int .i64 x)) b M (upd f t x) := by
  obtain ⟨A, T, h1, h2, h3⟩ := h
  refine ⟨A.set! t (.int .i64 x), T, set_at _ h1, by simpa using h2, fun i hi => ?_⟩
  rw [Array.set!_eq_setIfInBounds, Array.getElem?_setIfInBounds]
  by_cases e : t = i
  · subst e; simp [h2, ht, upd_eq]
  · rw [if_neg e, h3 i hi, upd_ne f x (fun e' => e e'.symm)]
theorem Cnts.new0 (w : World) (M T : Nat) (h : (madeCells #[.int .i64 0] M).size = M ∧ ∀ t, t < M → (madeCells #[.int .i64 0] M)[t]? = some (.int .i64 0)) : Cnts (w.alloc (.cells (madeCells #[.int .i64 0] M) T)) w.heap.size M (fun _ => 0) :=
  ⟨_, _, heap_alloc_new w _, h.1, h.2⟩
theorem made_ints (M : Nat) : (madeCells #[.int .i64 0] M).size = M ∧ ∀ t, t < M → (madeCells #[.int .i64 0] M)[t]? = some (.int .i64 0) := by
  unfold madeCells
  refine ⟨by simp, fun t ht => by simp [ht, Nat.mod_one]⟩
theorem make_ints (M : Nat) (hM : M ≤ 64) (W : World) : (Instr.makeSlice 22 (.int .i64 (M : Int)) (.int .i64 (M : Int))).run Tryd.prog W = .ok (.slice (some ⟨W.heap.size, 0, none⟩) M M) (W.alloc (.cells (madeCells #[.int .i64 0] M) 3)) := by
  exact run_make_row' 22 3 (.int .i64 0) 8 Tryd.underlying22 (by kernel_rfl) rfl .i64 .i64 M (by omega) (by omega) W
/-- the numbers of a row -/
def RowN (w : World) (b : Nat) (xs : List Nat) : Prop := b < w.heap.size ∧ ∀ j (hj : j < xs.length), w.cell? ⟨b, j, none⟩ = some (.int .i64 (xs[j] : Int))
theorem RowN.below {w w' : World} {b : Nat} {xs : List Nat} (h : RowN w b xs) (hb : Below w.heap.size w w') : RowN w' b xs :=
  ⟨Nat.lt_of_lt_of_le h.1 hb.size, fun j hj => by rw [hb.cell (p := ⟨b, j, none⟩) h.1]; exact h.2 j hj⟩
theorem RowN.other {w w' : World} {b : Nat} {xs : List Nat} {row : Option Nat} (h : RowN w b xs) (hg : w.grownBy w' row) (hne : some b ≠ row) : RowN w' b xs :=
  ⟨Nat.lt_of_lt_of_le h.1 hg.size, fun j hj => hg.cell (h.2 j hj) hne⟩
theorem nums_row {w : World} {base : Nat} {v : Value} {xs : List Nat} (h : NumsAt w base v xs) : ∃ rb av cv, v = .slice av xs.length cv ∧ (0 < xs.length → av = some ⟨rb, 0, none⟩ ∧ RowN w rb xs ∧ base ≤ rb) := by
  rcases AggsAt.shape h encN_len with ⟨rfl, rfl⟩ | ⟨g, cap, rfl, q1, q2, q3, q4, q5, _⟩
  · exact ⟨0, none, 0, rfl, fun h => by cases h⟩
  · refine ⟨g, _, _, rfl, fun _ => ⟨rfl, ⟨q2, fun j hj => ?_⟩, q1⟩⟩
    have := q5.get encN_len j hj 0 (by decide) _ rfl
    simpa using this
/-- how often the nodes below v have met a device -/
def met (ds : List Dv) (v x : Nat) : Int := (if (ds.getD x default).a < v then 1 else 0) + (if 0 ≤ (ds.getD x default).b ∧ (ds.getD x default).b < v then 1 else 0)
theorem met_zero {ds : List Dv} {N : Nat} (h : ∀ i, i < ds.length → itsB N (ds.getD i default) = true) (x : Nat) (hx : x < ds.length) : met ds 0 x = 0 := by
  obtain ⟨h1, _⟩ := itsB_parts (h x hx)
  unfold met; rw [if_neg (by omega), if_neg (by omega)]; rfl
theorem met_succ {ds : List Dv} {N : Nat} (h : ∀ i, i < ds.length → itsB N (ds.getD i default) = true) (v x : Nat) (hx : x < ds.length) : met ds (v + 1) x = met ds v x + if atB ds v x = true then 1 else 0 := by
  obtain ⟨h1, h2⟩ := itsB_parts (h x hx)
  unfold met atB
  obtain ⟨A, hA⟩ : ∃ A, (ds.getD x default).a = A := ⟨_, rfl⟩
  obtain ⟨B, hB⟩ : ∃ B, (ds.getD x default).b = B := ⟨_, rfl⟩
  rw [hA] at h1
  rw [hA, hB] at h2
  rw [hA, hB]
  by_cases e1 : A = v
  · have e2 : B ≠ v := by omega
    rw [decide_eq_true e1, Bool.true_or, if_pos rfl]
    rw [if_pos (by omega), if_neg (show ¬ A < (v : Int) by omega)]
    by_cases e3 : 0 ≤ B ∧ B < v
    · rw [if_pos e3, if_pos (by omega)]; omega
    · rw [if_neg e3, if_neg (by omega)]; omega
  · rw [decide_eq_false e1, Bool.false_or]
    by_cases e2 : B = v
    · rw [decide_eq_true e2, if_pos rfl, if_pos (show 0 ≤ B ∧ B < ((v + 1 : Nat) : Int) by omega), if_neg (show ¬ (0 ≤ B ∧ B < (v : Int)) by omega)]
      by_cases e3 : A < v
      · rw [if_pos e3, if_pos (by omega)]; omega
      · rw [if_neg e3, if_neg (by omega)]; omega
    · rw [decide_eq_false e2, if_neg Bool.false_ne_true]
      have a1 : (A < ((v + 1 : Nat) : Int)) = (A < (v : Int)) := propext ⟨fun _ => by omega, fun _ => by omega⟩
      have a2 : (0 ≤ B ∧ B < ((v + 1 : Nat) : Int)) = (0 ≤ B ∧ B < (v : Int)) := propext ⟨fun _ => by omega, fun _ => by omega⟩
      simp only [a1, a2]; omega
theorem met_in (ds : List Dv) (v x : Nat) : 0 ≤ met ds v x ∧ met ds v x ≤ 2 := by unfold met; constructor <;> (repeat' split) <;> omega
theorem met_all {ds : List Dv} {N : Nat} (h : ∀ i, i < ds.length → itsB N (ds.getD i default) = true) (x : Nat) (hx : x < ds.length) : met ds N x = if 1 ≤ (ds.getD x default).ki ∧ (ds.getD x default).ki ≤ 3 then 2 else 1 := by
  obtain ⟨h1, h2⟩ := itsB_parts (h x hx)
  unfold met
  rcases h2 with ⟨h2, h3, h4, _⟩ | ⟨h2, h3⟩
  · rw [if_pos h1.2, if_pos ⟨h3, h4⟩, if_pos h2]; rfl
  · rw [if_pos h1.2, if_neg (by omega), if_neg h2]; rfl
/-- what Other says of a device at a node -/
theorem at_other {ds : List Dv} {N : Nat} (h : ∀ i, i < ds.length → itsB N (ds.getD i default) = true) (v x : Nat) (hx : x < ds.length) (ha : atB ds v x = true) :
    (decide (1 ≤ (ds.getD x default).ki ∧ (ds.getD x default).ki ≤ 3) = decide (0 ≤ acr (ds.getD x default) v)) ∧ (0 ≤ acr (ds.getD x default) v → acr (ds.getD x default) v < N ∧ acr (ds.getD x default) (acr (ds.getD x default) v) = v) ∧ -1 ≤ acr (ds.getD x default) v := by
  obtain ⟨h1, h2⟩ := itsB_parts (h x hx)
  have ai := acr_in (v := (v : Int)) (h x hx)
  unfold atB at ha
  rw [Bool.or_eq_true, decide_eq_true_eq, decide_eq_true_eq] at ha
  refine ⟨?_, fun h0 => ?_, by omega⟩
  · by_cases hk : 1 ≤ (ds.getD x default).ki ∧ (ds.getD x default).ki ≤ 3
    · rw [decide_eq_true hk]
      symm
      refine decide_eq_true ?_
      unfold acr
      rw [if_pos hk]
      by_cases e : (v : Int) = (ds.getD x default).a
      · rw [if_pos e]; omega
      · rw [if_neg e, if_pos (by omega)]; omega
    · rw [decide_eq_false hk]
      symm
      refine decide_eq_false ?_
      unfold acr
      rw [if_neg hk]; omega
  · rcases ai with e | ⟨_, e1, e2⟩
    · omega
    · exact ⟨e1, e2⟩
theorem atL_get (ds : List Dv) (v : Int) (i : Nat) (hi : i < (atL ds v).length) : (atL ds v)[i] < ds.length ∧ atB ds v (atL ds v)[i] = true := by
  have := List.getElem_mem hi
  unfold atL at this
  rw [List.mem_filter, List.mem_range] at this
  exact this
theorem atL_sorted (ds : List Dv) (v : Int) (i j : Nat) (hij : i < j) (hj : j < (atL ds v).length) : (atL ds v)[i]'(by omega) < (atL ds v)[j] := by
  have := (List.pairwise_lt_range (n := ds.length)).filter (atB ds v)
  exact (List.pairwise_iff_getElem.1 this) i j (by unfold atL at hj; omega) hj hij
theorem atL_mem (ds : List Dv) (v : Int) (x : Nat) (hx : x < ds.length) : x ∈ atL ds v ↔ atB ds v x = true := by
  unfold atL; rw [List.mem_filter, List.mem_range]; exact ⟨fun h => h.2, fun h => ⟨hx, h⟩⟩

set_option maxRecDepth 100000 in
set_option maxHeartbeats 8000000 in
theorem at_walk (a : Option Addr) (len cap : Nat) (zs : List Int) (w : World) (hr : IsRow .i64 w a len cap zs) (h : HasClasses w) :
    Calls Tryd.prog 6 #[.slice a len cap] w fun e w' => e = .returned (.bool true) ∧ Below w.heap.size w w' := by
  have hl : len ≤ 9223372036854775807 := by
    rcases hr with ⟨_, h, _⟩ | ⟨_, _, h1, h2, _⟩
    · omega
    · unfold maxLen at h2; omega
  have H := Lib.hid h
  have HR := Lib.hid hr
  clear h hr
  by_cases h4 : len ≤ 400
  · have t1 : decide ((len : Int) ≤ 400) = true := decide_eq_true (by omega)
    go_enter Tryd.func6, Tryd.ntmps6
    go_wp2_with fail
    refine (few_any _ _ _ _ hl).mono ?_; rintro e w' ⟨rfl, rfl⟩
    go_wp2_with fail
    refine (newg_any _ _ _ _).mono ?_; rintro e w1 ⟨rfl, g1⟩
    have hbw := g1.lt
    obtain ⟨bd, hbd⟩ : ∃ b, w.heap.size = b := ⟨_, rfl⟩
    have HB := Lib.hid hbd
    rw [hbd] at hbw g1 ⊢
    clear hbd
    go_wp2_with fail
    refine (network_is (nodes := 8) (devices := 14) g1 HR.out (by decide) (by decide) (by decide) (by decide)).mono ?_
    rintro e W2 ⟨vn, vd, ns, ds, rfl, g2, rn, rd, gn, gd, n1, n2, d1, d2⟩
    obtain ⟨an, cn, ad, cd, rfl, rfl, ni, -, -⟩ := rows_net rn rd (by omega) gn gd hbw
    have CH := Lib.hid (good_chk (by omega) (by omega) gn gd)
    obtain ⟨N, hN⟩ : ∃ N, ns.length = N := ⟨_, rfl⟩
    obtain ⟨M, hM⟩ : ∃ M, ds.length = M := ⟨_, rfl⟩
    have IT : Hid (∀ i, i < ds.length → itsB N (ds.getD i default) = true) := fun i hi => by have := chk_its CH.out i hi; rwa [hN] at this
    have HN := Lib.hid hN
    have HM := Lib.hid hM
    rw [hN] at n1 n2 ni ⊢
    rw [hM] at d1 d2 ni ⊢
    have NI := Lib.hid (ni.below (below_box W2 (.cells #[.slice an N cn, .slice ad M cd] 26)))
    have k3 := ni.dcap
    have k4 := ni.dmax
    unfold maxLen at k4
    have NT := Lib.hid (NtAt.new W2 (.slice an N cn) (.slice ad M cd) 26)
    have BW := Lib.hid ((g2.alloc (.cells #[.slice an N cn, .slice ad M cd] 26)).below)
    clear rn rd gn gd hN hM ni g1 hbw w1
    have hmk := make_ints M (by omega)
    obtain ⟨W3, hW3⟩ : ∃ W3, W2.alloc (.cells #[.slice an N cn, .slice ad M cd] 26) = W3 := ⟨_, rfl⟩
    obtain ⟨g, hg⟩ : ∃ g, W2.heap.size = g := ⟨_, rfl⟩
    have hs3 : W3.heap.size = g + 1 := by rw [← hW3, ← hg]; simp
    rw [hg] at NT
    rw [hW3] at NT NI BW
    obtain ⟨k1, k2, -⟩ := NT.out
    clear g2
    go_wp2_with fail
    clear hW3 hg
    have CN := Lib.hid ((Cnts.new0 W3 M 3 (made_ints M)).congr (fun x hx => (met_zero IT.out x (by rw [HM.out]; exact hx)).symm))
    rw [hs3] at CN
    have B4 := Lib.hid (below_box W3 (.cells (madeCells #[.int .i64 0] M) 3))
    rw [hs3] at B4
    have NTK := Lib.hid (fun wr (b : Below (g + 1) W3 wr) => NT.out.below b (Nat.lt_succ_self g))
    have NIK := Lib.hid (fun wr (b : Below (g + 1) W3 wr) => NI.out.below (by rw [hs3]; exact b))
    have HCK := Lib.hid (fun wr (b : Below (g + 1) W3 wr) => H.out.below (BW.out.trans (b.mono (by have := BW.out.size; rw [hs3] at this; exact this))))
    clear k1 k2
    go_loopw [26] (fun i wr => ∃ v : Nat, v ≤ N ∧ i = .int .i64 v ∧ Hid (Below (g + 1) W3 wr) ∧ Hid (Cnts wr (g + 1) M (met ds v))) (fun i _ => N - (intOf i).toNat)
    case atStart => exact ⟨0, Nat.zero_le _, rfl, B4, CN⟩
    case round => as_aux_lemma =>
      clear CN B4
      obtain ⟨v, hvN, rfl, bel, cn0⟩ := hrel
      obtain ⟨k1, k2, -⟩ := NTK.out _ bel.out
      by_cases hv : v < N
      · have hwg : g + 1 < wr.heap.size := cn0.out.lt
        go_wp2_with fail
        refine (at_is an ad N cn M cd ns ds v wr (HCK.out _ bel.out) (NIK.out _ bel.out) (by omega) (by omega)).mono ?_
        rintro e w5 ⟨y, rfl, nu, b5⟩
        have eR : atR ns ds v = atL ds v := by unfold atR; rw [if_pos ⟨CH.out, by omega, by rw [HN.out]; omega⟩]
        rw [eR] at nu
        obtain ⟨rb, av, cv, rfl, hrow⟩ := nums_row nu
        obtain ⟨L, hL⟩ : ∃ L, (atL ds v).length = L := ⟨_, rfl⟩
        have HL := Lib.hid hL
        rw [hL] at hrow ⊢
        have HROW := Lib.hid hrow
        have hLm : L ≤ M := by rw [← hL, ← HM.out]; unfold atL; exact Nat.le_trans (List.length_filter_le _ _) (by simp)
        have B5 := Lib.hid (bel.out.trans (b5.mono (by omega)))
        have C5 := Lib.hid ((cn0.out.below b5).congr (g := fun x => met ds v x + if x ∈ (atL ds v).take 0 then 1 else 0) (fun x _ => by simp))
        have R5 : Hid (0 < L → av = some ⟨rb, 0, none⟩ ∧ RowN w5 rb (atL ds v) ∧ g + 1 < rb) := fun h => ⟨(HROW.out h).1, (HROW.out h).2.1, by have := (HROW.out h).2.2; omega⟩
        clear nu hrow b5 cn0 bel eR hL k1 k2 HROW
        go_wp2_with fail
        go_loopw [34] (fun i wr => ∃ j : Nat, j ≤ L ∧ i = .int .i64 j ∧ Hid (Below (g + 1) W3 wr) ∧ Hid (Cnts wr (g + 1) M (fun x => met ds v x + if x ∈ (atL ds v).take j then 1 else 0)) ∧ Hid (0 < L → av = some ⟨rb, 0, none⟩ ∧ RowN wr rb (atL ds v) ∧ g + 1 < rb)) (fun i _ => L - (intOf i).toNat)
        case atStart => exact ⟨0, Nat.zero_le _, rfl, B5, C5, R5⟩
        case round => as_aux_lemma =>
          clear B5 C5 R5
          obtain ⟨j, hjL, rfl, bel, cn0, ro⟩ := hrel
          obtain ⟨k1, k2, -⟩ := NTK.out _ bel.out
          by_cases hj : j < L
          · obtain ⟨rfl, row, hrb⟩ := ro.out (by omega)
            have hjl : j < (atL ds v).length := by rw [HL.out]; exact hj
            obtain ⟨hx1, hx2⟩ := atL_get ds v j hjl
            have f0 := row.2 j hjl
            obtain ⟨x, hx⟩ : ∃ x, (atL ds v)[j] = x := ⟨_, rfl⟩
            rw [hx] at hx1 hx2 f0
            have hxM : x < M := by rw [← HM.out]; exact hx1
            have PREV : Hid (∀ k, j = k + 1 → ∃ y : Nat, y < x ∧ wr.cell? ⟨rb, k, none⟩ = some (.int .i64 (y : Int))) := fun k hk => by
              subst hk
              refine ⟨(atL ds v)[k]'(by omega), ?_, row.2 k (by omega)⟩
              rw [← hx]; exact atL_sorted ds v k (k + 1) (by omega) hjl
            have hnt : x ∉ (atL ds v).take j := fun hm => by
              obtain ⟨k, hk, e⟩ := List.mem_iff_getElem.1 hm
              rw [List.getElem_take] at e
              have hkj : k < j := by simp at hk; omega
              have := atL_sorted ds v k j hkj hjl
              rw [e, hx] at this; omega
            obtain ⟨q0, q2⟩ := cn0.out.get hxM
            rw [if_neg hnt] at q0
            obtain ⟨c, hc⟩ : ∃ c, met ds v x = c := ⟨_, rfl⟩
            have hcb := met_in ds v x
            rw [hc] at hcb
            have q1 : wr.cell? ⟨g + 1, x, none⟩ = some (.int .i64 c) := by rw [q0, hc, Int.add_zero]
            clear q0
            have gp := gb_set (b := g + 1) (i := x) (Value.int .i64 (c + 1)) (gb_refl wr (some (g + 1)))
            have hwr : g + 1 ≤ wr.heap.size := by have := cn0.out.lt; omega
            have BN := Lib.hid (bel.out.grown gp hwr (fun k hk => by cases hk; exact Nat.le_refl _))
            have CNN : Hid (Cnts (wr.setCell ⟨g + 1, x, none⟩ (.int .i64 (c + 1))) (g + 1) M (fun z => met ds v z + if z ∈ (atL ds v).take (j + 1) then 1 else 0)) := by
              refine (cn0.out.set x hxM (c + 1)).congr (fun z _ => ?_)
              rw [List.take_succ_eq_append_getElem hjl, hx]
              by_cases e : z = x
              · subst e; rw [upd_eq, if_pos (by simp), hc]
              · rw [upd_ne _ _ e]; simp [e]
            have RON := Lib.hid (row.other gp (by simp; omega))
            have RE := Lib.hid (rfl : (some (⟨rb, 0, none⟩ : Addr)) = some ⟨rb, 0, none⟩)
            have DV := Lib.hid (at_other IT.out v x hx1 hx2)
            obtain ⟨o, ho⟩ : ∃ o, acr (ds.getD x default) v = o := ⟨_, rfl⟩
            rw [ho] at DV
            obtain ⟨dv1, dv2, dv3⟩ := DV.out
            have OT : Hid (othV ns ds x v = o) := by
              show _ = _
              unfold othV; rw [if_pos ⟨CH.out, by omega, by omega⟩, Int.toNat_natCast]; exact ho
            have OT2 : Hid (0 ≤ o → othV ns ds x o = v) := fun h => by
              show _ = _
              unfold othV; rw [if_pos ⟨CH.out, by omega, by omega⟩, Int.toNat_natCast]; exact (dv2 h).2
            have dv4 : o < N ∨ o = -1 := by
              by_cases h : 0 ≤ o
              · exact .inl (dv2 h).1
              · right; omega
            have JB := Lib.hid (fun W => rjoins_is (ds.getD x default).ki _ dv1 W)
            obtain ⟨gd, od, hbe, hgd, hcd⟩ := (NIK.out _ BN.out).din.some (by rw [HM.out]; omega)
            have cdx := (cells_dv hcd x (by rw [HM.out]; exact hxM)).2.1
            rw [← getD_of (by rw [HM.out]; exact hxM)] at cdx
            obtain ⟨kk, hkk⟩ : ∃ kk, (ds.getD x default).ki = kk := ⟨_, rfl⟩
            rw [hkk] at cdx JB
            subst hbe
            clear gp hnt hcd ho hkk hc dv1 dv2 DV hx2 row
            by_cases hj0 : j = 0
            · subst hj0
              go_wp2_with fail
              all_goals (try (exfalso; omega))
              refine (other_is an _ N cn M cd ns ds x v o _ (HCK.out _ BN.out) (NIK.out _ BN.out) (by omega) (by omega) OT.out).mono ?_; rintro e w6 ⟨rfl, b6⟩
              have B6 := Lib.hid (BN.out.trans (b6.mono (by simp; omega)))
              have C6 := Lib.hid (CNN.out.below b6)
              have R6 := Lib.hid (RON.out.below b6)
              obtain ⟨l1, l2, -⟩ := NTK.out _ B6.out
              have cdy := cdx
              rw [← b6.cell (p := ⟨gd, od + x * 5 + 1, none⟩) (by simpa using hgd)] at cdy
              clear b6 k1 k2 q1 q2
              go_wp2_with fail
              refine (JB.out _).mono ?_; rintro e w' ⟨rfl, rfl⟩
              by_cases ho0 : 0 ≤ o
              · have TO : decide (0 ≤ o) = true := decide_eq_true ho0
                have OO := Lib.hid (other_is an _ N cn M cd ns ds x o v w6 (HCK.out _ B6.out) (NIK.out _ B6.out) (by omega) (by omega) (OT2.out ho0))
                go_wp2_with fail
                refine OO.out.mono ?_; rintro e w7 ⟨rfl, b7⟩
                have B7 := Lib.hid (B6.out.trans (b7.mono (by have := C6.out.lt; omega)))
                have C7 := Lib.hid (C6.out.below b7)
                have R7 := Lib.hid (R6.out.below b7)
                clear b7
                go_wp2
                go_roundw
                case rel => exact ⟨_, by omega, by go_num, B7, C7, fun _ => ⟨by first | rfl | trivial, R7.out, hrb⟩⟩
                case measure => simp [intOf]; omega
              · have TO : decide (0 ≤ o) = false := decide_eq_false ho0
                go_wp2
                go_roundw
                case rel => exact ⟨_, by omega, by go_num, B6, C6, fun _ => ⟨by first | rfl | trivial, R6.out, hrb⟩⟩
                case measure => simp [intOf]; omega
            · obtain ⟨k, rfl⟩ : ∃ k, j = k + 1 := ⟨j - 1, by omega⟩
              obtain ⟨y, hy1, hy2⟩ := PREV.out k rfl
              go_wp2_with fail
              all_goals (try (exfalso; omega))
              refine (other_is an _ N cn M cd ns ds x v o _ (HCK.out _ BN.out) (NIK.out _ BN.out) (by omega) (by omega) OT.out).mono ?_; rintro e w6 ⟨rfl, b6⟩
              have B6 := Lib.hid (BN.out.trans (b6.mono (by simp; omega)))
              have C6 := Lib.hid (CNN.out.below b6)
              have R6 := Lib.hid (RON.out.below b6)
              obtain ⟨l1, l2, -⟩ := NTK.out _ B6.out
              have cdy := cdx
              rw [← b6.cell (p := ⟨gd, od + x * 5 + 1, none⟩) (by simpa using hgd)] at cdy
              clear b6 k1 k2 q1 q2
              go_wp2_with fail
              refine (JB.out _).mono ?_; rintro e w' ⟨rfl, rfl⟩
              by_cases ho0 : 0 ≤ o
              · have TO : decide (0 ≤ o) = true := decide_eq_true ho0
                have OO := Lib.hid (other_is an _ N cn M cd ns ds x o v w6 (HCK.out _ B6.out) (NIK.out _ B6.out) (by omega) (by omega) (OT2.out ho0))
                go_wp2_with fail
                refine OO.out.mono ?_; rintro e w7 ⟨rfl, b7⟩
                have B7 := Lib.hid (B6.out.trans (b7.mono (by have := C6.out.lt; omega)))
                have C7 := Lib.hid (C6.out.below b7)
                have R7 := Lib.hid (R6.out.below b7)
                clear b7
                go_wp2
                go_roundw
                case rel => exact ⟨_, by omega, by go_num, B7, C7, fun _ => ⟨by first | rfl | trivial, R7.out, hrb⟩⟩
                case measure => simp [intOf]; omega
              · have TO : decide (0 ≤ o) = false := decide_eq_false ho0
                go_wp2
                go_roundw
                case rel => exact ⟨_, by omega, by go_num, B6, C6, fun _ => ⟨by first | rfl | trivial, R6.out, hrb⟩⟩
                case measure => simp [intOf]; omega
          · obtain rfl : L = j := by omega
            have CE : Hid (Cnts wr (g + 1) M (met ds (v + 1))) := cn0.out.congr (fun x hx => by
              rw [met_succ IT.out v x (by rw [HM.out]; exact hx), List.take_of_length_le (by rw [HL.out]; exact Nat.le_refl _)]
              have := atL_mem ds v x (by rw [HM.out]; exact hx)
              by_cases e : atB ds v x = true
              · rw [if_pos e, if_pos (this.2 e)]
              · rw [if_neg e, if_neg (fun h => e (this.1 h))])
            go_wp2
            go_roundw
            case rel => exact ⟨v + 1, by omega, by go_num, bel, CE⟩
            case measure => simp [intOf]; omega
      · obtain rfl : N = v := by omega
        have CE := Lib.hid (cn0.out.congr (fun x hx => met_all IT.out x (by rw [HM.out]; exact hx)))
        clear k1 k2
        go_wp2_with fail
        go_loopw [96] (fun i wr => ∃ j : Nat, j ≤ M ∧ i = .int .i64 j ∧ Hid (Below (g + 1) W3 wr) ∧ Hid (Cnts wr (g + 1) M (fun x => if 1 ≤ (ds.getD x default).ki ∧ (ds.getD x default).ki ≤ 3 then 2 else 1))) (fun i _ => M - (intOf i).toNat)
        case atStart => exact ⟨0, Nat.zero_le _, rfl, bel, CE⟩
        case round => as_aux_lemma =>
          clear CE bel cn0
          obtain ⟨j, hjM, rfl, bel, cn0⟩ := hrel
          obtain ⟨k1, k2, -⟩ := NTK.out _ bel.out
          by_cases hj : j < M
          · obtain ⟨q1, -⟩ := cn0.out.get hj
            obtain ⟨gd, od, hbe, hgd, hcd⟩ := (NIK.out _ bel.out).din.some (by rw [HM.out]; omega)
            have cdx := (cells_dv hcd j (by rw [HM.out]; exact hj)).2.1
            rw [← getD_of (by rw [HM.out]; exact hj)] at cdx
            obtain ⟨kk, hkk⟩ : ∃ kk, (ds.getD j default).ki = kk := ⟨_, rfl⟩
            rw [hkk] at cdx q1
            subst hbe
            clear hcd hkk
            by_cases hkj : 1 ≤ kk ∧ kk ≤ 3
            · rw [if_pos hkj] at q1
              have JJ := Lib.hid (fun W => joins_is kk true (decide_eq_true hkj) W)
              clear hkj
              go_wp2_with fail
              refine (JJ.out _).mono ?_; rintro e w' ⟨rfl, rfl⟩
              go_wp2
              go_roundw
              case rel => exact ⟨j + 1, by omega, by go_num, bel, cn0⟩
              case measure => simp [intOf]; omega
            · rw [if_neg hkj] at q1
              have JJ := Lib.hid (fun W => joins_is kk false (decide_eq_false hkj) W)
              clear hkj
              go_wp2_with fail
              refine (JJ.out _).mono ?_; rintro e w' ⟨rfl, rfl⟩
              go_wp2
              go_roundw
              case rel => exact ⟨j + 1, by omega, by go_num, bel, cn0⟩
              case measure => simp [intOf]; omega
          · obtain rfl : M = j := by omega
            have BZ := Lib.hid (BW.out.trans (bel.out.mono (by have := BW.out.size; rw [hs3] at this; exact this)))
            go_wp2_with fail
            refine (check_is an ad N cn M cd ns ds 0 wr (HCK.out _ bel.out) (NIK.out _ bel.out) CH.out).mono ?_; rintro e w6 ⟨rfl, b6⟩
            have B6 := Lib.hid (BZ.out.trans (b6.mono BZ.out.size))
            clear b6
            go_wp2_with fail
            refine (awake_is _ (H.out.below B6.out)).mono ?_; rintro e w7 ⟨rfl, b7⟩
            have B7 := Lib.hid (B6.out.trans (b7.mono B6.out.size))
            clear b7
            go_wp2
            go_ret
            exact ⟨rfl, B7.out⟩
  · have t1 : decide ((len : Int) ≤ 400) = false := decide_eq_false (by omega)
    go_enter Tryd.func6, Tryd.ntmps6
    go_wp2_with fail
    refine (few_any _ _ _ _ hl).mono ?_; rintro e w' ⟨rfl, rfl⟩
    go_wp2_with fail
    refine (awake_is _ H.out).mono ?_; rintro e w2 ⟨rfl, b2⟩
    go_wp2
    go_ret
    exact ⟨rfl, b2⟩
end Go.Proofs.YtleggojgcaefdaaDoor.net
