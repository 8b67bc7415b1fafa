/- What ColourAnswers wants besides: Light with what it says of sizes; the maker of states for more devices; what is handed in, kept apart from the deck. No law in this text. -/
import Derived.Test.YtoeojhabhnoojaaDoorCoT
import Derived.Test.YtoeojhabhnoojaaDoorCoW
import Derived.Test.YtoeojhabhnoojaaDoorMkUw
namespace Go.Proofs.YtoeojhabhnoojaaDoor.col
open Go.RowKit Go.Maps lex aggs kit net deck msk

set_option maxRecDepth 100000 in
set_option maxHeartbeats 2000000 in
theorem light2_is (a b : Option Addr) (N c M d : Nat) (ns : List Nd) (ds : List Dv) (w : World) (h : NetIn w a b N c M d ns ds) :
    Calls Tryd.prog 9 #[.agg #[.slice a N c, .slice b M d]] w fun e w' => (∃ r : Bool, e = .returned (.bool r) ∧ (r = true → N ≤ 100 ∧ M ≤ 200)) ∧ Below w.heap.size w w' := by
  have bx := below_box w (.cells #[.slice a N c, .slice b M d] 26)
  have NT := Lib.hid (NtAt.new w (.slice a N c) (.slice b M d) 26)
  have hb := Lib.hid (h.below bx)
  obtain ⟨E, hE⟩ : ∃ E, chk ns ds = E := ⟨_, rfl⟩
  have CK := Lib.hid (rcheck_is a b N c M d ns ds E _ hb.out hE)
  have BX := Lib.hid bx
  clear bx hE h
  obtain ⟨p1, hp1⟩ : ∃ p, decide ((N : Int) ≤ 40) = p := ⟨_, rfl⟩
  obtain ⟨p2, hp2⟩ : ∃ p, decide ((M : Int) ≤ 14) = p := ⟨_, rfl⟩
  obtain ⟨p3, hp3⟩ : ∃ p, decide ((N : Int) ≤ 100) = p := ⟨_, rfl⟩
  obtain ⟨p4, hp4⟩ : ∃ p, decide ((M : Int) ≤ 200) = p := ⟨_, rfl⟩
  by_cases e0 : p1 = true ∧ p2 = true
  · obtain ⟨rfl, rfl⟩ := e0
    go_enter Tryd.func9, Tryd.ntmps9
    go_wp2
    go_ret
    exact ⟨⟨true, rfl, fun _ => ⟨by have := of_decide_eq_true hp1; omega, by have := of_decide_eq_true hp2; omega⟩⟩, BX.out⟩
  · have e1 : p1 = false ∨ p1 = true ∧ p2 = false := by cases p1 <;> cases p2 <;> simp_all
    clear e0
    by_cases eE : E = 0
    · subst eE
      rcases e1 with rfl | ⟨rfl, rfl⟩
      all_goals (
        go_enter Tryd.func9, Tryd.ntmps9
        go_wp2_with fail
        refine CK.out.mono ?_; rintro e w2 ⟨rfl, b2⟩
        have B2 := Lib.hid (BX.out.trans (b2.mono BX.out.size))
        clear b2
        go_wp2
        go_ret
        exact ⟨⟨false, rfl, fun h => by cases h⟩, B2.out⟩)
    · have T := bne_t eE
      clear eE
      rcases e1 with rfl | ⟨rfl, rfl⟩
      all_goals (cases p3)
      all_goals (cases p4)
      all_goals (
        (try have HPQ := Lib.hid (And.intro (show N ≤ 100 by have := of_decide_eq_true hp3; omega) (show M ≤ 200 by have := of_decide_eq_true hp4; omega)))
        go_enter Tryd.func9, Tryd.ntmps9
        go_wp2_with fail
        refine CK.out.mono ?_; rintro e w2 ⟨rfl, b2⟩
        have B2 := Lib.hid (BX.out.trans (b2.mono BX.out.size))
        obtain ⟨k1, k2, k3⟩ := NT.out.below b2 NT.out.2.2
        clear b2
        go_wp2
        go_ret
        first
        | exact ⟨⟨true, rfl, fun _ => HPQ.out⟩, B2.out⟩
        | exact ⟨⟨false, rfl, fun h => by cases h⟩, B2.out⟩)
set_option maxRecDepth 100000 in
set_option maxHeartbeats 8000000 in
theorem state_big {w0 w : World} {la : Option Addr} {len cap bd : Nat} {zs : List Int} (gm : Game w0 w bd la len cap) (hr : IsRow .i64 w0 la len cap zs) (a b : Option Addr) (N c M d : Nat) (ns : List Nd) (ds : List Dv) (h : NF w bd a b N c M d ns ds) (hM : M ≤ 1000) :
    Calls Tryd.prog 15 #[.pointer (some ⟨bd, 0, none⟩), .agg #[.slice a N c, .slice b M d]] w (StPost w0 w la len cap bd M) := by
  obtain ⟨i0, hi, hz0, hz1, hz2⟩ := info_parts infoI
  have bx := below_box w (.cells #[.slice a N c, .slice b M d] 26)
  have NT := NtAt.new w (.slice a N c) (.slice b M d) 26
  have hbd := gm.lt
  have hmn := gm.mine
  have GW := Lib.hid (gb_bl bx (some bd))
  have G1 := Lib.hid (gm.by_below bx)
  have NF1 := Lib.hid (h.keep2 (gb_bl bx (some bd)))
  have n3 := h.1.dcap
  have n4 := h.1.dmax
  unfold maxLen at n4
  have HR := Lib.hid hr
  have SZ : Hid ((w.alloc (.cells #[.slice a N c, .slice b M d] 26)).heap.size = w.heap.size + 1) := by show _ = _; simp
  clear bx gm h hr
  go_enter Tryd.func15, Tryd.ntmps15
  go_wp2_with fail
  generalize w.alloc (.cells #[.slice a N c, .slice b M d] 26) = W1 at *
  obtain ⟨gn, hgn⟩ : ∃ x, w.heap.size = x := ⟨_, rfl⟩
  have HGN := Lib.hid hgn
  rw [hgn] at NT SZ hbd ⊢
  clear hgn
  have C1 := Lib.hid NT.2.1
  have hgb : gn ≠ bd := by omega
  have k1 := NT.2.1
  clear NT
  go_loopw [5, 6] (fun p i wr => ∃ (k : Nat) (S : List Int), k ≤ M ∧ i = .int .i64 k ∧ S.length = k ∧ Hid (∀ s ∈ S, 1 ≤ s ∧ s ≤ 2) ∧ Hid (OwnI wr (gn + 1) p S) ∧ Hid (Game w0 wr bd la len cap) ∧ Hid (W1.grownBy wr (some bd))) (fun _ i _ => M - (intOf i).toNat)
  case atStart => exact ⟨0, [], Nat.zero_le _, rfl, rfl, no_el, AggsAt.nil _ _ _ _ _, G1.out, gb_refl _ _⟩
  case round =>
    clear k1
    obtain ⟨k, S, hk, rfl, hS, hSa, own, gmw, gb⟩ := hrel
    have k1 := gb.out.cell C1.out (by simpa using hgb)
    by_cases hlt : k < M
    · have NIw := NF1.out.keep gb.out
      obtain ⟨g, o, hbe, hg, hcd⟩ := NIw.din.some (by rw [NIw.dlen]; omega)
      obtain ⟨-, c1, -, -, -⟩ := cells_dv hcd k (by rw [NIw.dlen]; exact hlt)
      obtain ⟨ki, hki⟩ : ∃ x, (ds[k]'(by rw [NIw.dlen]; exact hlt)).ki = x := ⟨_, rfl⟩
      rw [hki] at c1
      have hgd : g ≠ bd := NF1.out.2.2 _ hbe
      obtain ⟨kb, hkb⟩ : ∃ x, (ki == 4) = x := ⟨_, rfl⟩
      have hSl := Lib.hid hS
      have gr0 := gb_refl wr (some bd)
      have gm0 := gmw.out
      subst hbe
      clear hcd hki NIw hg hS
      go_wp2_with fail
      go_region_held3 (fun w' => w'.cell? ⟨gn, 1, none⟩ = some (.slice (some ⟨g, o, none⟩) M d) ∧ w'.cell? ⟨g, o + k * 5 + 1, none⟩ = some (.int .i64 ki) ∧ Game w0 w' bd la len cap ∧ wr.grownBy w' (some bd))
        (first | exact duo_drew ⟨k1, c1, gm0, gr0⟩ | exact ⟨k1, c1, gm0, gr0⟩ | exact duo_drew (by assumption) | exact duo_keep (by assumption) hgb hgd (by assumption) (by assumption) | exact duo_drew (duo_keep (by assumption) hgb hgd (by assumption) (by assumption)) | go_keep)
        (first
          | (go_at_call 37; refine (one_is (duo_game (by assumption)).1 HR.out 4 (by decide)).mono ?_; rintro e w7 ⟨r1, rfl, gm7, gb7⟩))
      rename_i hS
      cases kb
      · cases r1
        · skip
          have own2 := Lib.hid (AggsAt.alloc (AggsAt.grown own.out (hS.2.2.2) (fun j hj => by cases hj; omega)) (.cells #[.int .i64 2] 3))
          have gb2 : Hid (W1.grownBy (w7.alloc (.cells #[.int .i64 2] 3)) (some bd)) := grown_alloc (gb_tr gb.out hS.2.2.2) _
          have gm2 := Lib.hid (hS.2.2.1.alloc (.cells #[.int .i64 2] 3))
          clear hS gm7 gb7 own gmw gb k1 c1 gr0 gm0
          go_wp2_with (at_builtin; go_must (refine wpList_append_own _ rfl (.tmp 25) (.tmp 27) 22 rfl (gn + 1) 3 i0 _ 1 8 Tryd.underlying22 hi hz0 hz1 hz2 rfl (by decide) u5 S.length (flat encI S) rfl own2.out _ 1 1 (encI 2) rfl rfl ?qc1 ?qc2 ?qc3 ?qc4 ?qc5 ?_))
          case qc1 => exact cell_newI _ _ rfl _ _
          case qc2 => exact encI_one _
          case qc3 => rw [hSl.out]; unfold maxLen; omega
          case qc4 => rw [hSl.out]; omega
          case qc5 => have := gb2.out.size; have := SZ.out; omega
          intro v' w5 hown' hgrow hnil'
          have lt := fun q hq => (World.ownsRow.lt own2.out q hq).1
          have NU := Lib.hid (show OwnI w5 (gn + 1) v' (S ++ [2]) from AggsAt.push hown')
          have NG : Hid (W1.grownBy w5 (some bd)) := gb_new_row gb2.out hgrow (fun q hq => by have := lt q hq; have := SZ.out; omega)
          have NM := Lib.hid (gm2.out.grown hgrow (fun e => by have := lt _ e.symm; omega) (fun q hq => by have := lt q hq; have := HGN.out; omega))
          have NA := Lib.hid (all_snoc (x := 2) hSa.out ⟨by decide, by decide⟩)
          clear hown' hgrow hnil' own2 gb2 gm2 hSa lt
          go_wp2
          go_roundw
          case rel => exact ⟨k + 1, S ++ [2], by omega, by go_num, by rw [List.length_append, hSl.out]; rfl, NA, NU, NM, NG⟩
          case measure => simp [intOf]; omega
        · skip
          have own2 := Lib.hid (AggsAt.alloc (AggsAt.grown own.out (hS.2.2.2) (fun j hj => by cases hj; omega)) (.cells #[.int .i64 1] 3))
          have gb2 : Hid (W1.grownBy (w7.alloc (.cells #[.int .i64 1] 3)) (some bd)) := grown_alloc (gb_tr gb.out hS.2.2.2) _
          have gm2 := Lib.hid (hS.2.2.1.alloc (.cells #[.int .i64 1] 3))
          clear hS gm7 gb7 own gmw gb k1 c1 gr0 gm0
          go_wp2_with (at_builtin; go_must (refine wpList_append_own _ rfl (.tmp 25) (.tmp 27) 22 rfl (gn + 1) 3 i0 _ 1 8 Tryd.underlying22 hi hz0 hz1 hz2 rfl (by decide) u5 S.length (flat encI S) rfl own2.out _ 1 1 (encI 1) rfl rfl ?qc1 ?qc2 ?qc3 ?qc4 ?qc5 ?_))
          case qc1 => exact cell_newI _ _ rfl _ _
          case qc2 => exact encI_one _
          case qc3 => rw [hSl.out]; unfold maxLen; omega
          case qc4 => rw [hSl.out]; omega
          case qc5 => have := gb2.out.size; have := SZ.out; omega
          intro v' w5 hown' hgrow hnil'
          have lt := fun q hq => (World.ownsRow.lt own2.out q hq).1
          have NU := Lib.hid (show OwnI w5 (gn + 1) v' (S ++ [1]) from AggsAt.push hown')
          have NG : Hid (W1.grownBy w5 (some bd)) := gb_new_row gb2.out hgrow (fun q hq => by have := lt q hq; have := SZ.out; omega)
          have NM := Lib.hid (gm2.out.grown hgrow (fun e => by have := lt _ e.symm; omega) (fun q hq => by have := lt q hq; have := HGN.out; omega))
          have NA := Lib.hid (all_snoc (x := 1) hSa.out ⟨by decide, by decide⟩)
          clear hown' hgrow hnil' own2 gb2 gm2 hSa lt
          go_wp2
          go_roundw
          case rel => exact ⟨k + 1, S ++ [1], by omega, by go_num, by rw [List.length_append, hSl.out]; rfl, NA, NU, NM, NG⟩
          case measure => simp [intOf]; omega
      · cases r1
        · skip
          have own2 := Lib.hid (AggsAt.alloc (AggsAt.grown own.out (hS.2.2.2) (fun j hj => by cases hj; omega)) (.cells #[.int .i64 1] 3))
          have gb2 : Hid (W1.grownBy (w7.alloc (.cells #[.int .i64 1] 3)) (some bd)) := grown_alloc (gb_tr gb.out hS.2.2.2) _
          have gm2 := Lib.hid (hS.2.2.1.alloc (.cells #[.int .i64 1] 3))
          clear hS gm7 gb7 own gmw gb k1 c1 gr0 gm0
          go_wp2_with (at_builtin; go_must (refine wpList_append_own _ rfl (.tmp 25) (.tmp 27) 22 rfl (gn + 1) 3 i0 _ 1 8 Tryd.underlying22 hi hz0 hz1 hz2 rfl (by decide) u5 S.length (flat encI S) rfl own2.out _ 1 1 (encI 1) rfl rfl ?qc1 ?qc2 ?qc3 ?qc4 ?qc5 ?_))
          case qc1 => exact cell_newI _ _ rfl _ _
          case qc2 => exact encI_one _
          case qc3 => rw [hSl.out]; unfold maxLen; omega
          case qc4 => rw [hSl.out]; omega
          case qc5 => have := gb2.out.size; have := SZ.out; omega
          intro v' w5 hown' hgrow hnil'
          have lt := fun q hq => (World.ownsRow.lt own2.out q hq).1
          have NU := Lib.hid (show OwnI w5 (gn + 1) v' (S ++ [1]) from AggsAt.push hown')
          have NG : Hid (W1.grownBy w5 (some bd)) := gb_new_row gb2.out hgrow (fun q hq => by have := lt q hq; have := SZ.out; omega)
          have NM := Lib.hid (gm2.out.grown hgrow (fun e => by have := lt _ e.symm; omega) (fun q hq => by have := lt q hq; have := HGN.out; omega))
          have NA := Lib.hid (all_snoc (x := 1) hSa.out ⟨by decide, by decide⟩)
          clear hown' hgrow hnil' own2 gb2 gm2 hSa lt
          go_wp2
          go_roundw
          case rel => exact ⟨k + 1, S ++ [1], by omega, by go_num, by rw [List.length_append, hSl.out]; rfl, NA, NU, NM, NG⟩
          case measure => simp [intOf]; omega
        · skip
          have own2 := Lib.hid (AggsAt.alloc (AggsAt.grown own.out (hS.2.2.2) (fun j hj => by cases hj; omega)) (.cells #[.int .i64 2] 3))
          have gb2 : Hid (W1.grownBy (w7.alloc (.cells #[.int .i64 2] 3)) (some bd)) := grown_alloc (gb_tr gb.out hS.2.2.2) _
          have gm2 := Lib.hid (hS.2.2.1.alloc (.cells #[.int .i64 2] 3))
          clear hS gm7 gb7 own gmw gb k1 c1 gr0 gm0
          go_wp2_with (at_builtin; go_must (refine wpList_append_own _ rfl (.tmp 25) (.tmp 27) 22 rfl (gn + 1) 3 i0 _ 1 8 Tryd.underlying22 hi hz0 hz1 hz2 rfl (by decide) u5 S.length (flat encI S) rfl own2.out _ 1 1 (encI 2) rfl rfl ?qc1 ?qc2 ?qc3 ?qc4 ?qc5 ?_))
          case qc1 => exact cell_newI _ _ rfl _ _
          case qc2 => exact encI_one _
          case qc3 => rw [hSl.out]; unfold maxLen; omega
          case qc4 => rw [hSl.out]; omega
          case qc5 => have := gb2.out.size; have := SZ.out; omega
          intro v' w5 hown' hgrow hnil'
          have lt := fun q hq => (World.ownsRow.lt own2.out q hq).1
          have NU := Lib.hid (show OwnI w5 (gn + 1) v' (S ++ [2]) from AggsAt.push hown')
          have NG : Hid (W1.grownBy w5 (some bd)) := gb_new_row gb2.out hgrow (fun q hq => by have := lt q hq; have := SZ.out; omega)
          have NM := Lib.hid (gm2.out.grown hgrow (fun e => by have := lt _ e.symm; omega) (fun q hq => by have := lt q hq; have := HGN.out; omega))
          have NA := Lib.hid (all_snoc (x := 2) hSa.out ⟨by decide, by decide⟩)
          clear hown' hgrow hnil' own2 gb2 gm2 hSa lt
          go_wp2
          go_roundw
          case rel => exact ⟨k + 1, S ++ [2], by omega, by go_num, by rw [List.length_append, hSl.out]; rfl, NA, NU, NM, NG⟩
          case measure => simp [intOf]; omega
    · obtain rfl : k = M := by omega
      go_wp2
      go_ret
      exact ⟨_, S, rfl, AggsAt.mono own.out (by have := HGN.out; omega), hS, hSa.out, gmw.out, GW.out.andThen gb.out (fun _ hj => .inr hj)⟩
theorem kept_row {w W : World} {bd : Nat} {a : Option Addr} {N c : Nat} {xs : List Int} (h : LIn w a N c xs) (hb : Below w.heap.size w W) (hbd : w.heap.size ≤ bd) : Kept W bd a N c xs := by
  refine ⟨h.below hb, fun p hp hq => ?_⟩
  obtain ⟨b, off, e, hlt, _⟩ := h.rin.some (by rw [h.len]; exact hp)
  rw [hq] at e
  injection e with e
  rw [e]; show b ≠ bd; omega
/-- a block of slice values -/
def VBlk (W : World) (g : Nat) (vs : List Value) : Prop := ∃ T, W.heap[g]? = some (.cells vs.toArray T (0, 0))
theorem VBlk.new (w : World) (vs : List Value) (C : Array Value) (hC : C = vs.toArray) (T : Nat) : VBlk (w.alloc (.cells C T)) w.heap.size vs := by subst hC; exact ⟨T, heap_alloc_new w _⟩
theorem VBlk.far {W W' : World} {g bd : Nat} {vs : List Value} (h : VBlk W g vs) (hg : W.grownBy W' (some bd)) (hne : g ≠ bd) : VBlk W' g vs := by
  obtain ⟨T, h⟩ := h
  exact ⟨T, by rw [hg.block g (lt_of_block h) (fun e => hne (by injection e))]; exact h⟩
theorem VBlk.get {W : World} {g : Nat} {vs : List Value} (h : VBlk W g vs) {j : Nat} {v : Value} (hj : vs[j]? = some v) : W.cell? ⟨g, j, none⟩ = some v := by
  obtain ⟨T, h⟩ := h
  simp [World.cell?, h, hj]
theorem nf_raw {w W : World} {bd : Nat} {a b : Option Addr} {N c M d : Nat} {ns : List Nd} {ds : List Dv} (h : NetIn w a b N c M d ns ds) (hb : Below w.heap.size w W) (hbd : w.heap.size ≤ bd) : NF W bd a b N c M d ns ds := by
  refine ⟨h.below hb, fun p hp => ?_, fun p hp => ?_⟩
  · rcases h.nin with ⟨e, _⟩ | ⟨g, o, e, hl, _⟩
    · rw [e] at hp; cases hp
    · rw [e] at hp; cases hp; show g ≠ bd; omega
  · rcases h.din with ⟨e, _⟩ | ⟨g, o, e, hl, _⟩
    · rw [e] at hp; cases hp
    · rw [e] at hp; cases hp; show g ≠ bd; omega
theorem row_lin {w : World} {a : Option Addr} {len cap : Nat} {zs : List Int} (h : IsRow .i64 w a len cap zs) : LIn w a len cap (zs.take len) ∧ ∀ i, i < len → -9223372036854775808 ≤ at0 (zs.take len) i ∧ at0 (zs.take len) i ≤ 9223372036854775807 := by
  rcases h with ⟨rfl, rfl, rfl, rfl⟩ | ⟨x, rfl, h1, h2, h3, hc, hw⟩
  · exact ⟨⟨rfl, Nat.le_refl _, Nat.zero_le _, .inl rfl, fun _ => rfl⟩, fun i hi => by omega⟩
  · have hl : (zs.take len).length = len := by rw [List.length_take]; omega
    refine ⟨⟨hl, h1, h2, ?_, fun h => by cases h⟩, fun i hi => ?_⟩
    · by_cases hp : 0 < zs.length
      · obtain ⟨b, off, rfl, hc'⟩ := ints_at hc hp
        refine .inr ⟨b, off, rfl, World.block_lt_of_cell? w _ (hc' 0 hp), fun i u hu => ?_⟩
        have hi : i < (zs.take len).length := by
          have := (List.getElem?_eq_some_iff.1 hu).1
          rw [flat_length encI_len, Nat.mul_one] at this; exact this
        have e := flat_get encI_len (zs.take len) i hi 0 (by decide)
        rw [Nat.mul_one, Nat.add_zero, hu] at e
        have e2 : u = .int .i64 (zs.take len)[i] := by simpa [encI] using e
        rw [hc' i (by omega), e2, List.getElem_take, List.getD_eq_getElem?_getD, List.getElem?_eq_getElem (by omega)]; rfl
      · have hz : zs = [] := List.eq_nil_of_length_eq_zero (by omega)
        have h0 : zs.take len = [] := by rw [hz]; simp
        exact .inl h0
    · have hm : at0 (zs.take len) i ∈ zs := by
        rw [at0_get (by omega), List.getElem_take]; exact List.getElem_mem _
      exact bounds_i64 (hw _ hm)

section
variable {w0 WS X : World} {bd len cap g k : Nat} {a : Option Addr} {v0 v1 u0 u1 : Value}
theorem four_alloc (h : X.cell? ⟨g, 0, none⟩ = some v0 ∧ X.cell? ⟨g, 1, none⟩ = some v1 ∧ X.cell? ⟨k, 0, none⟩ = some u0 ∧ X.cell? ⟨k, 1, none⟩ = some u1 ∧ Game w0 X bd a len cap ∧ WS.grownBy X (some bd)) (hg : g ≠ bd) (hk : k ≠ bd) (o : Obj) :
    (X.alloc o).cell? ⟨g, 0, none⟩ = some v0 ∧ (X.alloc o).cell? ⟨g, 1, none⟩ = some v1 ∧ (X.alloc o).cell? ⟨k, 0, none⟩ = some u0 ∧ (X.alloc o).cell? ⟨k, 1, none⟩ = some u1 ∧ Game w0 (X.alloc o) bd a len cap ∧ WS.grownBy (X.alloc o) (some bd) :=
  four_below h hg hk (below_box X o)
end
end Go.Proofs.YtoeojhabhnoojaaDoor.col
