/- The walks of what makes states and masks out of a list of numbers: State, Masks, Within. Condition: at most 64 devices. -/
import Derived.Test.YtoeojhabhnoojaaDoorMkC
import Derived.Test.YtoeojhabhnoojaaDoorNtG
import Derived.Test.YtoeojhabhnoojaaDoorMkOne
import Derived.Deep.RegionHeld3
namespace Go.Proofs.YtoeojhabhnoojaaDoor.msk
open Go.RowKit lex aggs kit net deck

section
variable {w0 WS X Y : World} {bd len cap g i k j : Nat} {a : Option Addr} {v0 u0 : Value}
theorem duo_keep (h : X.cell? ⟨g, i, none⟩ = some v0 ∧ X.cell? ⟨k, j, none⟩ = some u0 ∧ Game w0 X bd a len cap ∧ WS.grownBy X (some bd)) (hg : g ≠ bd) (hk : k ≠ bd) (gm : Game w0 Y bd a len cap) (gb : X.grownBy Y (some bd)) :
    Y.cell? ⟨g, i, none⟩ = some v0 ∧ Y.cell? ⟨k, j, none⟩ = some u0 ∧ Game w0 Y bd a len cap ∧ WS.grownBy Y (some bd) :=
  ⟨gb.cell h.1 (by simpa using hg), gb.cell h.2.1 (by simpa using hk), gm, gb_tr h.2.2.2 gb⟩
theorem duo_game (h : X.cell? ⟨g, i, none⟩ = some v0 ∧ X.cell? ⟨k, j, none⟩ = some u0 ∧ Game w0 X bd a len cap ∧ WS.grownBy X (some bd)) : Game w0 X bd a len cap ∧ WS.grownBy X (some bd) := h.2.2
theorem duo_drew (h : X.cell? ⟨g, i, none⟩ = some v0 ∧ X.cell? ⟨k, j, none⟩ = some u0 ∧ Game w0 X bd a len cap ∧ WS.grownBy X (some bd)) :
    X.drew.cell? ⟨g, i, none⟩ = some v0 ∧ X.drew.cell? ⟨k, j, none⟩ = some u0 ∧ Game w0 X.drew bd a len cap ∧ WS.grownBy X.drew (some bd) := ⟨h.1, h.2.1, h.2.2.1.drew, gb_drew h.2.2.2⟩
end
theorem gb_new_row {W w1 w2 : World} {bd : Nat} {row : Option Nat} (h : W.grownBy w1 (some bd)) (g : w1.grownBy w2 row) (hr : ∀ k, row = some k → W.heap.size ≤ k) : W.grownBy w2 (some bd) := h.andThen g (fun j hj => .inl (hr j hj))
/-- what State leaves -/
def StPost (w0 w : World) (la : Option Addr) (len cap bd M : Nat) (e : Ending) (w' : World) : Prop :=
  ∃ v S, e = .returned v ∧ OwnI w' w.heap.size v S ∧ S.length = M ∧ (∀ s ∈ S, 1 ≤ s ∧ s ≤ 2) ∧ Game w0 w' bd la len cap ∧ w.grownBy w' (some bd)
theorem all_snoc {S : List Int} {lo hi x : Int} (h : ∀ s ∈ S, lo ≤ s ∧ s ≤ hi) (hx : lo ≤ x ∧ x ≤ hi) : ∀ s ∈ S ++ [x], lo ≤ s ∧ s ≤ hi := fun s hs => by
  rcases List.mem_append.1 hs with h1 | h1
  · exact h s h1
  · rw [List.mem_singleton] at h1; subst h1; exact hx
theorem no_el {lo hi : Int} : Hid (∀ s ∈ ([] : List Int), lo ≤ s ∧ s ≤ hi) := fun s hs => by cases hs
set_option maxRecDepth 100000 in
set_option maxHeartbeats 8000000 in
theorem state_is {w0 w : World} {la : Option Addr} {len cap bd : Nat} {zs : List Int} (gm : Game w0 w bd la len cap) (hr : IsRow .i64 w0 la len cap zs) (a b : Option Addr) (N c M d : Nat) (ns : List Nd) (ds : List Dv) (h : NF w bd a b N c M d ns ds) (hM : M ≤ 64) :
    Calls Tryd.prog 15 #[.pointer (some ⟨bd, 0, none⟩), .agg #[.slice a N c, .slice b M d]] w (StPost w0 w la len cap bd M) := by
  obtain ⟨i0, hi, hz0, hz1, hz2⟩ := info_parts infoI
  have bx := below_box w (.cells #[.slice a N c, .slice b M d] 26)
  have NT := NtAt.new w (.slice a N c) (.slice b M d) 26
  have hbd := gm.lt
  have hmn := gm.mine
  have GW := Lib.hid (gb_bl bx (some bd))
  have G1 := Lib.hid (gm.by_below bx)
  have NF1 := Lib.hid (h.keep2 (gb_bl bx (some bd)))
  have n3 := h.1.dcap
  have n4 := h.1.dmax
  unfold maxLen at n4
  have HR := Lib.hid hr
  have SZ : Hid ((w.alloc (.cells #[.slice a N c, .slice b M d] 26)).heap.size = w.heap.size + 1) := by show _ = _; simp
  clear bx gm h hr
  go_enter Tryd.func15, Tryd.ntmps15
  go_wp2_with fail
  generalize w.alloc (.cells #[.slice a N c, .slice b M d] 26) = W1 at *
  obtain ⟨gn, hgn⟩ : ∃ x, w.heap.size = x := ⟨_, rfl⟩
  have HGN := Lib.hid hgn
  rw [hgn] at NT SZ hbd ⊢
  clear hgn
  have C1 := Lib.hid NT.2.1
  have hgb : gn ≠ bd := by omega
  have k1 := NT.2.1
  clear NT
  go_loopw [5, 6] (fun p i wr => ∃ (k : Nat) (S : List Int), k ≤ M ∧ i = .int .i64 k ∧ S.length = k ∧ Hid (∀ s ∈ S, 1 ≤ s ∧ s ≤ 2) ∧ Hid (OwnI wr (gn + 1) p S) ∧ Hid (Game w0 wr bd la len cap) ∧ Hid (W1.grownBy wr (some bd))) (fun _ i _ => M - (intOf i).toNat)
  case atStart => exact ⟨0, [], Nat.zero_le _, rfl, rfl, no_el, AggsAt.nil _ _ _ _ _, G1.out, gb_refl _ _⟩
  case round =>
    clear k1
    obtain ⟨k, S, hk, rfl, hS, hSa, own, gmw, gb⟩ := hrel
    have k1 := gb.out.cell C1.out (by simpa using hgb)
    by_cases hlt : k < M
    · have NIw := NF1.out.keep gb.out
      obtain ⟨g, o, hbe, hg, hcd⟩ := NIw.din.some (by rw [NIw.dlen]; omega)
      obtain ⟨-, c1, -, -, -⟩ := cells_dv hcd k (by rw [NIw.dlen]; exact hlt)
      obtain ⟨ki, hki⟩ : ∃ x, (ds[k]'(by rw [NIw.dlen]; exact hlt)).ki = x := ⟨_, rfl⟩
      rw [hki] at c1
      have hgd : g ≠ bd := NF1.out.2.2 _ hbe
      obtain ⟨kb, hkb⟩ : ∃ x, (ki == 4) = x := ⟨_, rfl⟩
      have hSl := Lib.hid hS
      have gr0 := gb_refl wr (some bd)
      have gm0 := gmw.out
      subst hbe
      clear hcd hki NIw hg hS
      go_wp2_with fail
      go_region_held3 (fun w' => w'.cell? ⟨gn, 1, none⟩ = some (.slice (some ⟨g, o, none⟩) M d) ∧ w'.cell? ⟨g, o + k * 5 + 1, none⟩ = some (.int .i64 ki) ∧ Game w0 w' bd la len cap ∧ wr.grownBy w' (some bd))
        (first | exact duo_drew ⟨k1, c1, gm0, gr0⟩ | exact ⟨k1, c1, gm0, gr0⟩ | exact duo_drew (by assumption) | exact duo_keep (by assumption) hgb hgd (by assumption) (by assumption) | exact duo_drew (duo_keep (by assumption) hgb hgd (by assumption) (by assumption)) | go_keep)
        (first
          | (go_at_call 37; refine (one_is (duo_game (by assumption)).1 HR.out 4 (by decide)).mono ?_; rintro e w7 ⟨r1, rfl, gm7, gb7⟩))
      rename_i hS
      cases kb
      · cases r1
        · skip
          have own2 := Lib.hid (AggsAt.alloc (AggsAt.grown own.out (hS.2.2.2) (fun j hj => by cases hj; omega)) (.cells #[.int .i64 2] 3))
          have gb2 : Hid (W1.grownBy (w7.alloc (.cells #[.int .i64 2] 3)) (some bd)) := grown_alloc (gb_tr gb.out hS.2.2.2) _
          have gm2 := Lib.hid (hS.2.2.1.alloc (.cells #[.int .i64 2] 3))
          clear hS gm7 gb7 own gmw gb k1 c1 gr0 gm0
          go_wp2_with (at_builtin; go_must (refine wpList_append_own _ rfl (.tmp 25) (.tmp 27) 22 rfl (gn + 1) 3 i0 _ 1 8 Tryd.underlying22 hi hz0 hz1 hz2 rfl (by decide) u5 S.length (flat encI S) rfl own2.out _ 1 1 (encI 2) rfl rfl ?qc1 ?qc2 ?qc3 ?qc4 ?qc5 ?_))
          case qc1 => exact cell_newI _ _ rfl _ _
          case qc2 => exact encI_one _
          case qc3 => rw [hSl.out]; unfold maxLen; omega
          case qc4 => rw [hSl.out]; omega
          case qc5 => have := gb2.out.size; have := SZ.out; omega
          intro v' w5 hown' hgrow hnil'
          have lt := fun q hq => (World.ownsRow.lt own2.out q hq).1
          have NU := Lib.hid (show OwnI w5 (gn + 1) v' (S ++ [2]) from AggsAt.push hown')
          have NG : Hid (W1.grownBy w5 (some bd)) := gb_new_row gb2.out hgrow (fun q hq => by have := lt q hq; have := SZ.out; omega)
          have NM := Lib.hid (gm2.out.grown hgrow (fun e => by have := lt _ e.symm; omega) (fun q hq => by have := lt q hq; have := HGN.out; omega))
          have NA := Lib.hid (all_snoc (x := 2) hSa.out ⟨by decide, by decide⟩)
          clear hown' hgrow hnil' own2 gb2 gm2 hSa lt
          go_wp2
          go_roundw
          case rel => exact ⟨k + 1, S ++ [2], by omega, by go_num, by rw [List.length_append, hSl.out]; rfl, NA, NU, NM, NG⟩
          case measure => simp [intOf]; omega
        · skip
          have own2 := Lib.hid (AggsAt.alloc (AggsAt.grown own.out (hS.2.2.2) (fun j hj => by cases hj; omega)) (.cells #[.int .i64 1] 3))
          have gb2 : Hid (W1.grownBy (w7.alloc (.cells #[.int .i64 1] 3)) (some bd)) := grown_alloc (gb_tr gb.out hS.2.2.2) _
          have gm2 := Lib.hid (hS.2.2.1.alloc (.cells #[.int .i64 1] 3))
          clear hS gm7 gb7 own gmw gb k1 c1 gr0 gm0
          go_wp2_with (at_builtin; go_must (refine wpList_append_own _ rfl (.tmp 25) (.tmp 27) 22 rfl (gn + 1) 3 i0 _ 1 8 Tryd.underlying22 hi hz0 hz1 hz2 rfl (by decide) u5 S.length (flat encI S) rfl own2.out _ 1 1 (encI 1) rfl rfl ?qc1 ?qc2 ?qc3 ?qc4 ?qc5 ?_))
          case qc1 => exact cell_newI _ _ rfl _ _
          case qc2 => exact encI_one _
          case qc3 => rw [hSl.out]; unfold maxLen; omega
          case qc4 => rw [hSl.out]; omega
          case qc5 => have := gb2.out.size; have := SZ.out; omega
          intro v' w5 hown' hgrow hnil'
          have lt := fun q hq => (World.ownsRow.lt own2.out q hq).1
          have NU := Lib.hid (show OwnI w5 (gn + 1) v' (S ++ [1]) from AggsAt.push hown')
          have NG : Hid (W1.grownBy w5 (some bd)) := gb_new_row gb2.out hgrow (fun q hq => by have := lt q hq; have := SZ.out; omega)
          have NM := Lib.hid (gm2.out.grown hgrow (fun e => by have := lt _ e.symm; omega) (fun q hq => by have := lt q hq; have := HGN.out; omega))
          have NA := Lib.hid (all_snoc (x := 1) hSa.out ⟨by decide, by decide⟩)
          clear hown' hgrow hnil' own2 gb2 gm2 hSa lt
          go_wp2
          go_roundw
          case rel => exact ⟨k + 1, S ++ [1], by omega, by go_num, by rw [List.length_append, hSl.out]; rfl, NA, NU, NM, NG⟩
          case measure => simp [intOf]; omega
      · cases r1
        · skip
          have own2 := Lib.hid (AggsAt.alloc (AggsAt.grown own.out (hS.2.2.2) (fun j hj => by cases hj; omega)) (.cells #[.int .i64 1] 3))
          have gb2 : Hid (W1.grownBy (w7.alloc (.cells #[.int .i64 1] 3)) (some bd)) := grown_alloc (gb_tr gb.out hS.2.2.2) _
          have gm2 := Lib.hid (hS.2.2.1.alloc (.cells #[.int .i64 1] 3))
          clear hS gm7 gb7 own gmw gb k1 c1 gr0 gm0
          go_wp2_with (at_builtin; go_must (refine wpList_append_own _ rfl (.tmp 25) (.tmp 27) 22 rfl (gn + 1) 3 i0 _ 1 8 Tryd.underlying22 hi hz0 hz1 hz2 rfl (by decide) u5 S.length (flat encI S) rfl own2.out _ 1 1 (encI 1) rfl rfl ?qc1 ?qc2 ?qc3 ?qc4 ?qc5 ?_))
          case qc1 => exact cell_newI _ _ rfl _ _
          case qc2 => exact encI_one _
          case qc3 => rw [hSl.out]; unfold maxLen; omega
          case qc4 => rw [hSl.out]; omega
          case qc5 => have := gb2.out.size; have := SZ.out; omega
          intro v' w5 hown' hgrow hnil'
          have lt := fun q hq => (World.ownsRow.lt own2.out q hq).1
          have NU := Lib.hid (show OwnI w5 (gn + 1) v' (S ++ [1]) from AggsAt.push hown')
          have NG : Hid (W1.grownBy w5 (some bd)) := gb_new_row gb2.out hgrow (fun q hq => by have := lt q hq; have := SZ.out; omega)
          have NM := Lib.hid (gm2.out.grown hgrow (fun e => by have := lt _ e.symm; omega) (fun q hq => by have := lt q hq; have := HGN.out; omega))
          have NA := Lib.hid (all_snoc (x := 1) hSa.out ⟨by decide, by decide⟩)
          clear hown' hgrow hnil' own2 gb2 gm2 hSa lt
          go_wp2
          go_roundw
          case rel => exact ⟨k + 1, S ++ [1], by omega, by go_num, by rw [List.length_append, hSl.out]; rfl, NA, NU, NM, NG⟩
          case measure => simp [intOf]; omega
        · skip
          have own2 := Lib.hid (AggsAt.alloc (AggsAt.grown own.out (hS.2.2.2) (fun j hj => by cases hj; omega)) (.cells #[.int .i64 2] 3))
          have gb2 : Hid (W1.grownBy (w7.alloc (.cells #[.int .i64 2] 3)) (some bd)) := grown_alloc (gb_tr gb.out hS.2.2.2) _
          have gm2 := Lib.hid (hS.2.2.1.alloc (.cells #[.int .i64 2] 3))
          clear hS gm7 gb7 own gmw gb k1 c1 gr0 gm0
          go_wp2_with (at_builtin; go_must (refine wpList_append_own _ rfl (.tmp 25) (.tmp 27) 22 rfl (gn + 1) 3 i0 _ 1 8 Tryd.underlying22 hi hz0 hz1 hz2 rfl (by decide) u5 S.length (flat encI S) rfl own2.out _ 1 1 (encI 2) rfl rfl ?qc1 ?qc2 ?qc3 ?qc4 ?qc5 ?_))
          case qc1 => exact cell_newI _ _ rfl _ _
          case qc2 => exact encI_one _
          case qc3 => rw [hSl.out]; unfold maxLen; omega
          case qc4 => rw [hSl.out]; omega
          case qc5 => have := gb2.out.size; have := SZ.out; omega
          intro v' w5 hown' hgrow hnil'
          have lt := fun q hq => (World.ownsRow.lt own2.out q hq).1
          have NU := Lib.hid (show OwnI w5 (gn + 1) v' (S ++ [2]) from AggsAt.push hown')
          have NG : Hid (W1.grownBy w5 (some bd)) := gb_new_row gb2.out hgrow (fun q hq => by have := lt q hq; have := SZ.out; omega)
          have NM := Lib.hid (gm2.out.grown hgrow (fun e => by have := lt _ e.symm; omega) (fun q hq => by have := lt q hq; have := HGN.out; omega))
          have NA := Lib.hid (all_snoc (x := 2) hSa.out ⟨by decide, by decide⟩)
          clear hown' hgrow hnil' own2 gb2 gm2 hSa lt
          go_wp2
          go_roundw
          case rel => exact ⟨k + 1, S ++ [2], by omega, by go_num, by rw [List.length_append, hSl.out]; rfl, NA, NU, NM, NG⟩
          case measure => simp [intOf]; omega
    · obtain rfl : k = M := by omega
      go_wp2
      go_ret
      exact ⟨_, S, rfl, AggsAt.mono own.out (by have := HGN.out; omega), hS, hSa.out, gmw.out, GW.out.andThen gb.out (fun _ hj => .inr hj)⟩
theorem unk_grow {f g : Nat → Int} {j : Nat} (h : ∀ i, i ≠ j → g i = f i) (n : Nat) : (unk g n).length ≤ (unk f n).length + if j < n then 1 else 0 := by
  induction n with
  | zero => simp [unk]
  | succ n ih =>
    rw [unk, unk]
    by_cases e : n = j
    · subst e
      rw [if_neg (Nat.lt_irrefl n)] at ih
      rw [if_pos (Nat.lt_succ_self n)]
      split <;> split <;> (try rw [List.length_append]) <;> (try rw [List.length_append]) <;> (try rw [List.length_singleton]) <;> omega
    · rw [h n e]
      have e2 : (if j < n + 1 then 1 else 0) = if j < n then 1 else 0 := by
        by_cases hj : j < n
        · rw [if_pos hj, if_pos (by omega)]
        · rw [if_neg hj, if_neg (by omega)]
      rw [e2]
      split
      · rw [List.length_append, List.length_append, List.length_singleton]; omega
      · exact ih
theorem set3_masks {S : List Int} {j k : Nat} (h : S.all mB = true) (hj : j < S.length) (hu : (unkL S).length ≤ k) : (S.set j 3).all mB = true ∧ (unkL (S.set j 3)).length ≤ k + 1 := by
  refine ⟨all_iff.2 (fun i hi => ?_), ?_⟩
  · rw [at0_set _ hj]
    by_cases e : i = j
    · rw [if_pos e]; rfl
    · rw [if_neg e]; exact all_iff.1 h i (by rw [List.length_set] at hi; exact hi)
  · have := unk_grow (f := at0 S) (g := at0 (S.set j 3)) (j := j) (fun i e => by rw [at0_set _ hj, if_neg e]) S.length
    rw [if_pos hj] at this
    rw [unkL] at hu
    rw [unkL, List.length_set]; omega
theorem pos_masks {S : List Int} (h : ∀ s ∈ S, 1 ≤ s ∧ s ≤ 2) : S.all mB = true ∧ (unkL S).length = 0 := by
  have e : ∀ i, i < S.length → 1 ≤ at0 S i ∧ at0 S i ≤ 2 := fun i hi => by rw [at0_get hi]; exact h _ (List.getElem_mem _)
  refine ⟨all_iff.2 (fun i hi => mB_iff.2 (by have := e i hi; omega)), ?_⟩
  rw [unkL]
  by_cases hp : (unk (at0 S) S.length).length = 0
  · exact hp
  · have hm : (unk (at0 S) S.length)[0] ∈ unk (at0 S) S.length := List.getElem_mem (by omega)
    obtain ⟨h1, h2⟩ := unk_mem.1 hm
    have := e _ h1; omega
/-- what Masks leaves -/
def MkPost (w0 w : World) (la : Option Addr) (len cap bd M most : Nat) (e : Ending) (w' : World) : Prop :=
  ∃ v S, e = .returned v ∧ OwnI w' w.heap.size v S ∧ S.length = M ∧ S.all mB = true ∧ (unkL S).length ≤ most ∧ Game w0 w' bd la len cap ∧ w.grownBy w' (some bd)
set_option maxRecDepth 100000 in
set_option maxHeartbeats 8000000 in
theorem masks_is {w0 w : World} {la : Option Addr} {len cap bd : Nat} {zs : List Int} (gm : Game w0 w bd la len cap) (hr : IsRow .i64 w0 la len cap zs) (a b : Option Addr) (N c M d : Nat) (ns : List Nd) (ds : List Dv) (h : NF w bd a b N c M d ns ds) (hM : M ≤ 64) (hM1 : 1 ≤ M) (most : Nat) (hmost : most ≤ 64) :
    Calls Tryd.prog 13 #[.pointer (some ⟨bd, 0, none⟩), .agg #[.slice a N c, .slice b M d], .int .i64 (most : Int)] w (MkPost w0 w la len cap bd M most) := by
  have bx := below_box w (.cells #[.slice a N c, .slice b M d] 26)
  have GW := Lib.hid (gb_bl bx (some bd))
  have ST := Lib.hid (state_is (gm.by_below bx) hr a b N c M d ns ds (h.keep2 (gb_bl bx (some bd))) hM)
  have NT := NtAt.new w (.slice a N c) (.slice b M d) 26
  obtain ⟨c0, c1, -⟩ := NT
  have HR := Lib.hid hr
  have hbd := gm.lt
  have hmn := gm.mine
  clear bx gm h hr
  go_enter Tryd.func13, Tryd.ntmps13
  go_wp2_with fail
  refine ST.out.mono ?_
  rintro e w2 ⟨v, S, rfl, own, hS, hSa, gm2, gb2⟩
  obtain ⟨av, cv, rfl, -, -⟩ := own.lin
  rw [hS] at own ⊢
  obtain ⟨m1, m2⟩ := pos_masks hSa
  have S1 := Lib.hid m1
  have S2 : Hid ((unkL S).length ≤ 0) := by show _ ≤ _; omega
  have OW := Lib.hid (AggsAt.mono own (base' := w.heap.size) (by simp))
  have GB := Lib.hid (GW.out.andThen gb2 (fun _ hj => .inr hj))
  have GM := Lib.hid gm2
  have HS := Lib.hid hS
  obtain ⟨g, rfl, -, hbg, -, -, hcv, -⟩ := own.some (by omega)
  rw [World.size_alloc] at hbg
  unfold maxLen at hcv
  clear own hSa m1 m2 gb2 gm2 hS c0 c1
  go_wp2
  go_loopw [8] (fun i wr => ∃ (k : Nat) (S : List Int), k ≤ most ∧ i = .int .i64 k ∧ Hid (S.length = M) ∧ Hid (S.all mB = true) ∧ Hid ((unkL S).length ≤ k) ∧ Hid (OwnI wr w.heap.size (.slice (some ⟨g, 0, none⟩) M cv) S) ∧ Hid (Game w0 wr bd la len cap) ∧ Hid (w.grownBy wr (some bd))) (fun i _ => most - (intOf i).toNat)
  case atStart => exact ⟨0, S, Nat.zero_le _, rfl, HS, S1, S2, OW, GM, GB⟩
  case round =>
    clear OW GM GB S1 S2 HS S
    obtain ⟨k, S, hk, rfl, hS, hSm, hSu, own, gmw, gb⟩ := hrel
    by_cases hlt : k < most
    · go_wp2_with fail
      refine (one_is gmw.out HR.out 2 (by decide)).mono ?_; rintro e w3 ⟨r1, rfl, gm3, gb3⟩
      have own3 := Lib.hid (AggsAt.grown own.out gb3 (fun j hj => by cases hj; exact hbd))
      have GM3 := Lib.hid gm3
      have GB3 := Lib.hid (gb_tr gb.out gb3)
      clear own gmw gb gm3 gb3
      cases r1
      · go_wp2
        go_roundw
        case rel => exact ⟨k + 1, S, by omega, by go_num, hS, hSm, (show _ ≤ _ from Nat.le_succ_of_le hSu.out), own3, GM3, GB3⟩
        case measure => simp [intOf]; omega
      · go_wp2_with fail
        refine (GM3.out.next HR.out (M : Int) (by omega)).mono ?_; rintro e w4 ⟨r2, rfl, r20, r21, gm4, gb4⟩
        obtain ⟨q, rfl⟩ : ∃ q : Nat, r2 = q := ⟨r2.toNat, by omega⟩
        have hq : q < M := by omega
        have own4 := AggsAt.grown own3.out gb4 (fun j hj => by cases hj; exact hbd)
        obtain ⟨g', e, -, -, -, -, -, hcell⟩ := OwnI.some own4 (by omega)
        cases e
        obtain ⟨c1, f1⟩ := hcell q hq
        have st := OwnI.set own4 hS.out q hq 3
        have NS := Lib.hid (set3_masks hSm.out (by rw [hS.out]; exact hq) hSu.out)
        have NO := Lib.hid st.1
        have NM := Lib.hid (gm4.grown st.2 (fun e => by injection e; omega) (fun j hj => by cases hj; omega))
        have NG := Lib.hid (gb_new_row (gb_tr GB3.out gb4) st.2 (fun j hj => by cases hj; omega))
        have NL : Hid ((S.set q 3).length = M) := by show _ = _; rw [List.length_set]; exact hS.out
        clear st own4 hcell own3 GM3 GB3 gm4 gb4 r20 r21 hS hSm hSu
        go_wp2
        go_roundw
        case rel => exact ⟨k + 1, S.set q 3, by omega, by go_num, NL, NS.out.1, NS.out.2, NO, NM, NG⟩
        case measure => simp [intOf]; omega
    · obtain rfl : k = most := by omega
      go_wp2
      go_ret
      exact ⟨_, S, rfl, own.out, hS.out, hSm.out, hSu.out, gmw.out, gb.out⟩
end Go.Proofs.YtoeojhabhnoojaaDoor.msk
