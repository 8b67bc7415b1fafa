/- The walk of the program's Union: the fewest spans with the minutes of a list; ErrTime if one is not valid. -/
import Derived.Test.YticehhmfbpjamaaDoorCalU
namespace Go.Proofs.YticehhmfbpjamaaDoor.cal
open Go.RowKit lex uni aggs

/-- what Union leaves of spans that are valid -/
def UnPost (xs : List Sp) (w : World) (e : Ending) (w' : World) : Prop :=
  ∃ v u, e = .returned (.tuple #[v, .int .i64 0]) ∧ IsUnion xs u ∧ AggsAt 43 2 encSp w' w.heap.size v u ∧ Below w.heap.size w w'
/-- .. of others -/
def BadPost (w : World) (e : Ending) (w' : World) : Prop := e = .returned (.tuple #[.slice none 0 0, .int .i64 11]) ∧ Below w.heap.size w w'


/-! what holds of the spans while they are put together -/
structure UFact (ys U : List Sp) (j : Nat) : Prop where
  uni : IsUnion (ys.take j) U
  low : ∀ u ∈ U, ∀ s ∈ ys.drop j, u.1 ≤ s.1
  len : U.length ≤ j
theorem UFact.start (ys : List Sp) : UFact ys [] 0 := ⟨IsUnion.self nf_nil, (fun u hu => by cases hu), Nat.le_refl _⟩
theorem drop_sorted {ys : List Sp} (h : ys.Pairwise (fun a b => a.1 ≤ b.1)) {j : Nat} (hj : j < ys.length) : ∀ s ∈ ys.drop (j + 1), (ys[j]).1 ≤ s.1 := by
  have e : ys = ys.take j ++ ys.drop j := (List.take_append_drop _ _).symm
  rw [e, List.drop_eq_getElem_cons hj, List.pairwise_append] at h
  exact (List.pairwise_cons.1 h.2.1).1
theorem drop_sub {ys : List Sp} {j : Nat} (hj : j < ys.length) : ∀ s ∈ ys.drop (j + 1), s ∈ ys.drop j := by
  intro s hs; rw [List.drop_eq_getElem_cons hj]; exact List.mem_cons_of_mem _ hs
theorem mem_drop_self {ys : List Sp} {j : Nat} (hj : j < ys.length) : ys[j] ∈ ys.drop j := by rw [List.drop_eq_getElem_cons hj]; exact List.mem_cons_self
theorem UFact.first {ys : List Sp} {j : Nat} (h : UFact ys [] j) (hj : j < ys.length) (hs : (ys[j]).1 < (ys[j]).2) (hp : ys.Pairwise (fun a b => a.1 ≤ b.1)) : UFact ys ([] ++ [ys[j]]) (j + 1) where
  uni := by rw [take_next hj]; exact union_push h.uni hs (fun u hu => by cases hu)
  low := fun u hu s hs' => by
    obtain rfl : u = ys[j] := by simpa using hu
    exact drop_sorted hp hj s hs'
  len := by simp
theorem UFact.push {ys V : List Sp} {x : Sp} {j : Nat} (h : UFact ys (V ++ [x]) j) (hj : j < ys.length) (hs : (ys[j]).1 < (ys[j]).2) (hp : ys.Pairwise (fun a b => a.1 ≤ b.1)) (hx : x.2 < (ys[j]).1) : UFact ys (V ++ [x] ++ [ys[j]]) (j + 1) where
  uni := by
    rw [take_next hj]
    refine union_push h.uni hs (fun u hu => ?_)
    rcases List.mem_append.1 hu with hu | hu
    · have := nf_last_low h.uni.1 u hu
      have := h.uni.1.2 x (by simp)
      omega
    · obtain rfl : u = x := by simpa using hu
      exact hx
  low := fun u hu s hs' => by
    rcases List.mem_append.1 hu with hu | hu
    · exact h.low u hu s (drop_sub hj s hs')
    · obtain rfl : u = ys[j] := by simpa using hu
      exact drop_sorted hp hj s hs'
  len := by have := h.len; simp at this ⊢; omega
theorem UFact.merge {ys V : List Sp} {x : Sp} {j : Nat} (h : UFact ys (V ++ [x]) j) (hj : j < ys.length) (hs : (ys[j]).1 < (ys[j]).2) (hx : (ys[j]).1 ≤ x.2) : UFact ys (V ++ [(x.1, max x.2 (ys[j]).2)]) (j + 1) where
  uni := by
    rw [take_next hj]
    exact union_merge h.uni hs (h.low x (by simp) _ (mem_drop_self hj)) hx
  low := fun u hu s hs' => by
    rcases List.mem_append.1 hu with hu | hu
    · exact h.low u (by simp [hu]) s (drop_sub hj s hs')
    · obtain rfl : u = (x.1, max x.2 (ys[j]).2) := by simpa using hu
      exact h.low x (by simp) s (drop_sub hj s hs')
  len := by have := h.len; simp at this ⊢; omega
theorem SpIn.grown {w w' : World} {a : Option Addr} {xs : List Sp} {row : Option Nat} (h : SpIn w a xs) (hg : w.grownBy w' row) (hne : ∀ b off, a = some ⟨b, off, none⟩ → some b ≠ row) : SpIn w' a xs := by
  rcases h with h | ⟨b, off, h1, h2, h3⟩
  · exact .inl h
  · refine .inr ⟨b, off, h1, Nat.lt_of_lt_of_le h2 hg.size, fun i u hu => ?_⟩
    have e := hg.block b h2 (hne b off h1)
    have := h3 i u hu
    rw [World.cell?_of_block (a := ⟨b, off + i, none⟩) e]; exact this
theorem cell_new2 (w : World) (g : Nat) (hg : g = w.heap.size) (T : Nat) (x1 x2 : Int) : ∀ j u, (encSp (x1, x2))[j]? = some u → (w.alloc (.cells #[.int .i64 x1, .int .i64 x2] T)).cell? ((⟨g, 0, none⟩ : Addr).add j) = some u := by
  subst hg; exact cell_one (enc := encSp) (k := 2) w _ T (x1, x2) rfl
theorem two_allocs (w : World) (a b : Obj) (n : Nat) : (((w.alloc a).drewN n).alloc b).heap.size = w.heap.size + 2 := by simp
theorem bel_two {B : Nat} {w wr : World} (h : Below B w wr) (hB : B ≤ wr.heap.size) (a b : Obj) (n : Nat) : Below B w (((wr.alloc a).drewN n).alloc b) :=
  (below_drewN (h.alloc hB a) n).alloc (by simp; omega) b
theorem set_last (V : List Sp) (x y : Sp) (n : Nat) (hn : n = V.length) : (V ++ [x]).set n y = V ++ [y] := by subst hn; simp
theorem aggs_drewN {T k : Nat} {w : World} {base : Nat} {v : Value} {xs : List Sp} (h : AggsAt T k encSp w base v xs) (n : Nat) : AggsAt T k encSp (w.drewN n) base v xs :=
  h.grown (row := none) (deck.gb_drewN n (deck.gb_refl w none)) (fun k hk => by cases hk)

set_option maxRecDepth 100000 in
set_option maxHeartbeats 1000000 in
theorem union_nil (a : Option Addr) (cap : Nat) (w : World) (h : SpIn w a []) : Calls Tryd.prog 25 #[.slice a 0 cap] w (UnPost [] w) := by
  have C1 := Lib.hid (clone_any a cap [] w h (by simp))
  clear h
  go_enter Tryd.func25, Tryd.ntmps25
  go_wp2
  refine wp_loop_rounds 1 ?_; rw [rounds_succ]
  go_wp2_with fail
  refine C1.out.mono ?_; rintro e w1 ⟨v, rfl, own, b1⟩
  have S1 := Lib.hid (sort_any v [] w.heap.size w1 own (by simp))
  obtain ⟨a1, cap1, rfl, -⟩ := own.length encSp_len
  have B1 := Lib.hid b1
  have OW := Lib.hid own
  clear own b1
  go_wp2_with fail
  refine S1.out.mono ?_; rintro e w2 ⟨rfl, ys, a2, cap2, -, -, -, -, -, gr⟩
  have B2 := Lib.hid (B1.out.grown gr B1.out.size (fun k hk => (World.ownsRow.lt OW.out k hk).1))
  clear gr
  go_wp2
  refine wp_loop_rounds 1 ?_; rw [rounds_succ]
  go_wp2
  go_ret2
  exact ⟨_, [], rfl, IsUnion.self nf_nil, AggsAt.nil _ _ _ _ _, B2.out⟩

set_option maxRecDepth 100000 in
set_option maxHeartbeats 2000000 in
theorem union_row (b off n cap : Nat) (xs : List Sp) (w : World) (hn : xs.length = n) (hb : b < w.heap.size) (hp : 0 < n) (hl : n ≤ 4294967296) (h : CellsAt encSp 2 w b off xs) (hv : ∀ s ∈ xs, spOk s = true) :
    Calls Tryd.prog 25 #[.slice (some ⟨b, off, none⟩) n cap] w (UnPost xs w) := by
  have HN := Lib.hid hn
  have HIN : Hid (SpIn w (some ⟨b, off, none⟩) xs) := .inr ⟨b, off, rfl, hb, h⟩
  have HV := Lib.hid hv
  have HX : Hid (xs ≠ []) := fun e => by rw [e] at hn; simp at hn; omega
  clear hn h hv
  go_enter Tryd.func25, Tryd.ntmps25
  go_wp2
  go_loopw [13] (fun i wr => ∃ k : Nat, k ≤ n ∧ i = .int .i64 k ∧ Below w.heap.size w wr) (fun i _ => n - (intOf i).toNat)
  case atStart => exact ⟨0, Nat.zero_le _, rfl, Below.refl _ _⟩
  case round =>
    obtain ⟨k, hk, rfl, bel⟩ := hrel
    by_cases hlt : k < n
    · obtain ⟨b', off', e1, hb1, hc⟩ := (HIN.out.below bel).cells HX.out
      obtain ⟨rfl, rfl⟩ : b = b' ∧ off = off' := by injection e1 with e1; injection e1 with e2 e3; exact ⟨e2, e3⟩
      have hkx : k < xs.length := by rw [HN.out]; exact hlt
      obtain ⟨c0, c1⟩ := hc k hkx
      have hok := HV.out xs[k] (List.getElem_mem hkx)
      obtain ⟨x1, hx1⟩ : ∃ x, xs[k].1 = x := ⟨_, rfl⟩
      obtain ⟨x2, hx2⟩ : ∃ x, xs[k].2 = x := ⟨_, rfl⟩
      rw [hx1] at c0
      rw [hx2] at c1
      have hok' : spOk (x1, x2) = true := by rw [← hx1, ← hx2]; exact hok
      have C1 := Lib.hid (fun w => valid_is x1 x2 true hok' w)
      clear e1 hc hok hok' hx1 hx2
      go_wp2_with fail
      refine (C1.out _).mono ?_; rintro e w5 ⟨rfl, b5⟩
      have BB := Lib.hid ((bel.alloc bel.size (.cells #[.int .i64 x1, .int .i64 x2] 43)).trans (b5.mono (by simp; have := bel.size; omega)))
      clear b5
      go_wp2
      go_roundw
      case rel => exact ⟨k + 1, by omega, by go_num, BB.out⟩
      case measure => simp [intOf]; omega
    · obtain rfl : k = n := by omega
      have BE := Lib.hid bel
      have C1 := Lib.hid (show Calls Tryd.prog 46 #[.slice (some ⟨b, off, none⟩) k cap] wr (ClonePost xs wr) from by
        rw [← HN.out]; exact clone_any _ cap xs wr (HIN.out.below bel) (by rw [HN.out]; exact hl))
      clear bel
      go_wp2_with fail
      refine C1.out.mono ?_; rintro e w1 ⟨v, rfl, own, b1⟩
      have S1 := Lib.hid (sort_any v xs _ w1 own (by rw [HN.out]; exact hl))
      rcases own.shape encSp_len with ⟨_, e0⟩ | ⟨g, cap1, rfl, hg0, hg1, -, -, -, -⟩
      · exact absurd e0 HX.out
      have B1 := Lib.hid (BE.out.trans (b1.mono BE.out.size))
      have OW := Lib.hid own
      rw [HN.out] at S1
      rw [HN.out]
      clear own b1 C1
      go_wp2_with fail
      refine S1.out.mono ?_; rintro e w2 ⟨rfl, ys, a2, cap2, hv2, hyl, hmem, hsrt, hin2, gr⟩
      obtain ⟨rfl, hyn⟩ : a2 = some ⟨g, 0, none⟩ ∧ ys.length = k := by
        injection hv2 with e1 e2 e3
        exact ⟨e1.symm, e2.symm⟩
      have B2 := Lib.hid (B1.out.grown gr B1.out.size (fun q hq => by cases hq; exact Nat.le_trans BE.out.size hg0))
      have YN := Lib.hid hyn
      have HM := Lib.hid hmem
      have HS := Lib.hid hsrt
      have HI := Lib.hid hin2
      have VY : Hid (∀ s ∈ ys, s.1 < s.2) := fun s hs => by
        have := of_decide_eq_true (HV.out s ((hmem s).2 hs)); omega
      have GW : Hid (g < w2.heap.size) := Nat.lt_of_lt_of_le hg1 gr.size
      clear hv2 hyl hmem hsrt hin2 gr hyn S1 OW
      obtain ⟨i0, hi, hz0, hz1, hz2⟩ := info_parts infoSp
      have hBW := B2.out.size
      go_wp2
      go_loopw [7, 27] (fun v i wr => ∃ (j : Nat) (U : List Sp), j ≤ k ∧ i = .int .i64 j ∧ Below w.heap.size w wr ∧ Hid (UFact ys U j) ∧ Hid (AggsAt 43 2 encSp wr w2.heap.size v U) ∧ Hid (SpIn wr (some ⟨g, 0, none⟩) ys) ∧ w2.heap.size ≤ wr.heap.size ∧ Hid (U = [] → v = .slice none 0 0)) (fun _ i _ => k - (intOf i).toNat)
      case atStart =>
        exact ⟨0, [], Nat.zero_le _, rfl, B2.out, UFact.start ys, AggsAt.nil _ _ _ _ _, HI, Nat.le_refl _, fun _ => rfl⟩
      case round =>
        obtain ⟨j, U, hj, rfl, bel2, huf, own, hin3, hws, hnil⟩ := hrel
        by_cases hjk : j < k
        · have hyx : j < ys.length := by rw [YN.out]; exact hjk
          have hyne : ys ≠ [] := fun e => by rw [e] at hyx; simp at hyx
          obtain ⟨b', off', e1, hb1, hc⟩ := hin3.out.cells hyne
          obtain ⟨rfl, rfl⟩ : g = b' ∧ 0 = off' := by injection e1 with e1; injection e1 with e2 e3; exact ⟨e2, e3⟩
          obtain ⟨c0, c1⟩ := hc j hyx
          rw [Nat.zero_add] at c0 c1
          have hvs := VY.out ys[j] (List.getElem_mem hyx)
          obtain ⟨x1, hx1⟩ : ∃ x, ys[j].1 = x := ⟨_, rfl⟩
          obtain ⟨x2, hx2⟩ : ∃ x, ys[j].2 = x := ⟨_, rfl⟩
          have HY : Hid (ys[j] = (x1, x2)) := Prod.ext hx1 hx2
          rw [hx1] at c0
          rw [hx2] at c1
          have HVS := Lib.hid hvs
          clear e1 hc hx1 hx2 hyne hb1 hvs
          rcases own.out.shape encSp_len with ⟨rfl, hU⟩ | ⟨gu, cu, rfl, hgu, hgu1, hcu, hcm, hcell, hfree⟩
          · subst hU
            go_wp2
            go_quiet (fail)
            go_wp2_with (at_builtin; refine wpList_append_own _ rfl (.tmp 46) (.tmp 48) 41 rfl w2.heap.size 43 i0 _ 2 16 Tryd.underlying41 hi hz0 hz1 hz2 rfl (by decide) (.slice none 0 0) 0 (flat encSp []) rfl ((aggs_drewN (own.out.alloc _) nq).alloc _) ⟨wr.heap.size + 1, 0, none⟩ 1 1 (encSp (x1, x2)) rfl rfl ?qc1 ?qc2 ?qc3 ?qc4 ?qc5 ?_)
            case qc1 => exact cell_new2 _ _ (by simp) _ x1 x2
            case qc2 => exact encSp_one (x1, x2)
            case qc3 => unfold maxLen; have := huf.out.len; simp at this; omega
            case qc4 => have := huf.out.len; simp at this; omega
            case qc5 => simp; omega
            intro v' w5 hown' hgrow hnil'
            have OWN := Lib.hid (AggsAt.push hown')
            have BB := Lib.hid ((bel_two bel2 bel2.size (.cells #[.int .i64 x1, .int .i64 x2] 43) (.cells #[.int .i64 x1, .int .i64 x2] 43) nq).grown hgrow (by rw [two_allocs]; have := bel2.size; omega) (fun q hq => by simp [Value.ownBlock] at hq))
            have HI5 := Lib.hid ((hin3.out.below (bel_two (Below.refl wr.heap.size wr) (Nat.le_refl _) (.cells #[.int .i64 x1, .int .i64 x2] 43) (.cells #[.int .i64 x1, .int .i64 x2] 43) nq)).grown hgrow (fun b off e => by simp [Value.ownBlock]))
            have UF := Lib.hid (by have := huf.out.first hyx HVS.out HS.out; rw [HY.out] at this; exact this : UFact ys ([] ++ [(x1, x2)]) (j + 1))
            have W5 := Lib.hid (Nat.le_trans (show w2.heap.size ≤ (((wr.alloc (.cells #[.int .i64 x1, .int .i64 x2] 43)).drewN nq).alloc (.cells #[.int .i64 x1, .int .i64 x2] 43)).heap.size from by rw [two_allocs]; omega) hgrow.size)
            clear hown' hgrow hnil'
            go_wp2
            go_roundw
            case rel => exact ⟨j + 1, _, by omega, by go_num, BB.out, UF, OWN, HI5, W5.out, Lib.hid (fun e => by simp at e)⟩
            case measure => simp [intOf]; omega
          · have hUne : U ≠ [] := fun e => by have := hnil.out e; cases this
            obtain ⟨V, x, rfl⟩ : ∃ V x, U = V ++ [x] := ⟨U.dropLast, U.getLast hUne, (List.dropLast_concat_getLast hUne).symm⟩
            obtain ⟨N, hN⟩ : ∃ N, (V ++ [x]).length = N := ⟨_, rfl⟩
            have hN1 : 1 ≤ N := by rw [← hN]; simp
            have hNl : N ≤ j := by rw [← hN]; exact huf.out.len
            have hlast : N - 1 < (V ++ [x]).length := by omega
            have hxe : (V ++ [x])[N - 1] = x := by
              have : N - 1 = V.length := by rw [← hN]; simp
              simp [this]
            have d0 := hcell.get encSp_len (N - 1) hlast 0 (by decide) (.int .i64 x.1) (by rw [hxe]; rfl)
            have d1 := hcell.get encSp_len (N - 1) hlast 1 (by decide) (.int .i64 x.2) (by rw [hxe]; rfl)
            rw [Nat.zero_add] at d0 d1
            have hf1 := hfree ((N - 1) * 2 + 1)
            have tn : decide ((N : Int) - 1 < 0) = false := decide_eq_false (by omega)
            have HN2 := Lib.hid hN
            have HXE : Hid (∀ h : N - 1 < (V ++ [x]).length, (V ++ [x])[N - 1] = x) := fun _ => hxe
            have HF := Lib.hid hfree
            rw [hN] at own hcu ⊢
            clear hUne hcell hfree hlast hxe hN
            by_cases ht : x.2 < x1
            · have tt : decide (x.2 < x1) = true := decide_eq_true ht
              go_wp2
              go_quiet (fail)
              go_wp2_with (at_builtin; refine wpList_append_own _ rfl (.tmp 46) (.tmp 48) 41 rfl w2.heap.size 43 i0 _ 2 16 Tryd.underlying41 hi hz0 hz1 hz2 rfl (by decide) (.slice (some ⟨gu, 0, none⟩) N cu) (V ++ [x]).length (flat encSp (V ++ [x])) rfl ((aggs_drewN (own.out.alloc _) nq).alloc _) ⟨wr.heap.size + 1, 0, none⟩ 1 1 (encSp (x1, x2)) rfl rfl ?qc1 ?qc2 ?qc3 ?qc4 ?qc5 ?_)
              case qc1 => exact cell_new2 _ _ (by simp) _ x1 x2
              case qc2 => exact encSp_one (x1, x2)
              case qc3 => unfold maxLen; rw [HN2.out]; omega
              case qc4 => rw [HN2.out]; omega
              case qc5 => simp; omega
              intro v' w5 hown' hgrow hnil'
              have OWN := Lib.hid (AggsAt.push (show w5.ownsRow w2.heap.size 43 2 v' ((V ++ [x]).length + 1) (flat encSp (V ++ [x]) ++ encSp (x1, x2)) from by rw [List.length_append]; exact hown'))
              have BB := Lib.hid ((bel_two bel2 bel2.size (.cells #[.int .i64 x1, .int .i64 x2] 43) (.cells #[.int .i64 x1, .int .i64 x2] 43) nq).grown hgrow (by rw [two_allocs]; have := bel2.size; omega) (fun q hq => by simp [Value.ownBlock] at hq; omega))
              have HI5 := Lib.hid ((hin3.out.below (bel_two (Below.refl wr.heap.size wr) (Nat.le_refl _) (.cells #[.int .i64 x1, .int .i64 x2] 43) (.cells #[.int .i64 x1, .int .i64 x2] 43) nq)).grown hgrow (fun b off e => by have hg := GW.out; cases e; simp [Value.ownBlock]; omega))
              have UF := Lib.hid (by have := huf.out.push hyx HVS.out HS.out (by rw [HY.out]; exact ht); rw [HY.out] at this; exact this : UFact ys (V ++ [x] ++ [(x1, x2)]) (j + 1))
              have W5 := Lib.hid (Nat.le_trans (show w2.heap.size ≤ (((wr.alloc (.cells #[.int .i64 x1, .int .i64 x2] 43)).drewN nq).alloc (.cells #[.int .i64 x1, .int .i64 x2] 43)).heap.size from by rw [two_allocs]; omega) hgrow.size)
              clear hown' hgrow hnil'
              go_wp2
              go_roundw
              case rel => exact ⟨j + 1, _, by omega, by go_num, BB.out, UF, OWN, HI5, W5.out, Lib.hid (fun e => by simp at e)⟩
              case measure => simp [intOf]; omega
            · have tt : decide (x.2 < x1) = false := decide_eq_false ht
              go_wp2
              go_quiet (fail)
              have UF := Lib.hid (by have := huf.out.merge hyx HVS.out (by rw [HY.out]; show x1 ≤ x.2; omega); rw [HY.out] at this; exact this : UFact ys (V ++ [(x.1, max x.2 x2)]) (j + 1))
              have own1 := AggsAt.set HN2.out (aggs_drewN (own.out.alloc (.cells #[.int .i64 x1, .int .i64 x2] 43)) (nq + 1)) encSp_len (N - 1) (by rw [HN2.out]; omega) 1 (by decide) (x.1, max x.2 x2) (.int .i64 (max x.2 x2)) (by rw [HXE.out _]; rfl)
              rw [set_last V x _ (N - 1) (by have := HN2.out; simp at this; omega)] at own1
              obtain ⟨own2, gr2⟩ := own1
              have OWN := Lib.hid own2
              have HI5 := Lib.hid ((hin3.out.below (below_drewN ((Below.refl wr.heap.size wr).alloc (Nat.le_refl _) (.cells #[.int .i64 x1, .int .i64 x2] 43)) (nq + 1))).grown gr2 (fun b off e => by have hg := GW.out; cases e; simp; omega))
              have BB := Lib.hid ((below_drewN (bel2.alloc bel2.size (.cells #[.int .i64 x1, .int .i64 x2] 43)) (nq + 1)).setCell (p := ⟨gu, (N - 1) * 2 + 1, none⟩) (by show w.heap.size ≤ gu; omega) (.int .i64 (max x.2 x2)))
              clear own2 gr2
              go_wp2
              go_region
              go_wp2
              go_roundw
              case rel => exact ⟨j + 1, _, by omega, by go_num, BB.out, UF, OWN, HI5, by simp; omega, Lib.hid (fun e => by simp at e)⟩
              case measure => simp [intOf]; omega
        · obtain rfl : j = k := by omega
          go_wp2
          go_ret2
          refine ⟨_, U, rfl, ?_, own.out.mono hBW, bel2⟩
          have := huf.out.uni
          rw [List.take_of_length_le (by rw [YN.out]; exact Nat.le_refl _)] at this
          exact this.perm (fun s => (HM.out s).symm)
end Go.Proofs.YticehhmfbpjamaaDoor.cal
