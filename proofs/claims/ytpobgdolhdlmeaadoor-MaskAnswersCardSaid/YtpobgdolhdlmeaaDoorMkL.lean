/- For every number and every list MaskLimit returns true: api.MaxUnknown devices may be unknown, and no more. Condition: the table 'flags' holds what the program's text lays (the card ties that). -/
import Derived.Test.YtpobgdolhdlmeaaDoorMkK
namespace Go.Proofs.YtpobgdolhdlmeaaDoor.msk
open Go.RowKit lex aggs kit net deck

/-- a row that came in, as a slice that can be read; its elements are numbers of 64 bits -/
theorem row_lin {w : World} {a : Option Addr} {len cap : Nat} {zs : List Int} (h : IsRow .i64 w a len cap zs) : LIn w a len cap (zs.take len) ∧ ∀ i, i < len → -9223372036854775808 ≤ at0 (zs.take len) i ∧ at0 (zs.take len) i ≤ 9223372036854775807 := by
  rcases h with ⟨rfl, rfl, rfl, rfl⟩ | ⟨x, rfl, h1, h2, h3, hc, hw⟩
  · exact ⟨⟨rfl, Nat.le_refl _, Nat.zero_le _, .inl rfl, fun _ => rfl⟩, fun i hi => by omega⟩
  · have hl : (zs.take len).length = len := by rw [List.length_take]; omega
    refine ⟨⟨hl, h1, h2, ?_, fun h => by cases h⟩, fun i hi => ?_⟩
    · by_cases hp : 0 < zs.length
      · obtain ⟨b, off, rfl, hc'⟩ := ints_at hc hp
        refine .inr ⟨b, off, rfl, World.block_lt_of_cell? w _ (hc' 0 hp), fun i u hu => ?_⟩
        have hi : i < (zs.take len).length := by
          have := (List.getElem?_eq_some_iff.1 hu).1
          rw [flat_length encI_len, Nat.mul_one] at this; exact this
        have e := flat_get encI_len (zs.take len) i hi 0 (by decide)
        rw [Nat.mul_one, Nat.add_zero, hu] at e
        have e2 : u = .int .i64 (zs.take len)[i] := by simpa [encI] using e
        rw [hc' i (by omega), e2, List.getElem_take, List.getD_eq_getElem?_getD, List.getElem?_eq_getElem (by omega)]; rfl
      · have hz : zs = [] := List.eq_nil_of_length_eq_zero (by omega)
        have h0 : zs.take len = [] := by rw [hz]; simp
        exact .inl h0
    · have hm : at0 (zs.take len) i ∈ zs := by
        rw [at0_get (by omega), List.getElem_take]; exact List.getElem_mem _
      exact bounds_i64 (hw _ hm)
/-- what Mod leaves -/
def ModP (k : Int) (w : World) (e : Ending) (w' : World) : Prop := ∃ r : Int, e = .returned (.int .i64 r) ∧ 0 ≤ r ∧ r < k ∧ w = w'
theorem mod_any (n k : Int) (w : World) (k0 : 1 ≤ k) (k1 : k ≤ 4611686018427387904) (_n0 : -9223372036854775808 ≤ n) (_n1 : n ≤ 9223372036854775807) :
    Calls Tryd.prog 39 #[.int .i64 n, .int .i64 k] w (ModP k w) := by
  obtain ⟨m, hm⟩ : ∃ m, n.tmod k = m := ⟨_, rfl⟩
  have m0 : -k < m := by rw [← hm]; exact Int.lt_tmod_of_pos n (by omega)
  have m1 : m < k := by rw [← hm]; exact Int.tmod_lt_of_pos n (by omega)
  obtain ⟨r, hr⟩ : ∃ r, (m + k) % k = r := ⟨_, rfl⟩
  have r0 : 0 ≤ r := by rw [← hr]; exact Int.emod_nonneg _ (by omega)
  have r1 : r < k := by rw [← hr]; exact Int.emod_lt_of_pos _ (by omega)
  have kz : k ≠ 0 := by omega
  go_enter Tryd.func39, Tryd.ntmps39
  go_wp2
  go_ret
  refine ⟨r, ?_, r0, r1, rfl⟩
  rw [hr]; rfl
theorem unk_all {f : Nat → Int} {n : Nat} (h : ∀ i, i < n → f i = 3) : (unk f n).length = n := by
  induction n with
  | zero => rfl
  | succ n ih => rw [unk, if_pos (h n (by omega)), List.length_append, ih (fun i hi => h i (by omega)), List.length_singleton]
theorem unk_skip {f : Nat → Int} {n : Nat} (j : Nat) (h : ∀ i, n ≤ i → i < n + j → f i ≠ 3) : unk f (n + j) = unk f n := by
  induction j with
  | zero => rfl
  | succ j ih => rw [← Nat.add_assoc, unk, if_neg (h _ (by omega) (by omega)), ih (fun i h1 h2 => h i h1 (by omega))]
/-- C unknown devices, and others behind them -/
theorem lim_masks {C : Nat} {Y : List Int} (h : ∀ y ∈ Y, 1 ≤ y ∧ y ≤ 2) : (List.replicate C 3 ++ Y).all mB = true ∧ (unkL (List.replicate C 3 ++ Y)).length = C := by
  have hl : (List.replicate C (3 : Int) ++ Y).length = C + Y.length := by simp
  have e1 : ∀ i, i < C → at0 (List.replicate C 3 ++ Y) i = 3 := fun i hi => by
    unfold at0
    rw [List.getD_eq_getElem?_getD, List.getElem?_append_left (by simpa using hi), List.getElem?_replicate, if_pos hi]; rfl
  have e2 : ∀ i, C ≤ i → i < C + Y.length → 1 ≤ at0 (List.replicate C 3 ++ Y) i ∧ at0 (List.replicate C 3 ++ Y) i ≤ 2 := fun i h1 h2 => by
    have : at0 (List.replicate C 3 ++ Y) i ∈ Y := by
      rw [at0_get (by omega), List.getElem_append_right (by simpa using h1)]
      exact List.getElem_mem _
    exact h _ this
  refine ⟨all_iff.2 (fun i hi => mB_iff.2 ?_), ?_⟩
  · rw [hl] at hi
    by_cases hc : i < C
    · rw [e1 i hc]; omega
    · have := e2 i (by omega) hi; omega
  · rw [unkL, hl, unk_skip Y.length (fun i h1 h2 => by have := e2 i h1 h2; omega)]
    exact unk_all e1
theorem no_els : Hid (∀ y ∈ ([] : List Int), 1 ≤ y ∧ y ≤ 2) := fun y hy => by cases hy
theorem rep_snoc (n : Nat) : List.replicate (n + 1) (3 : Int) = List.replicate n 3 ++ [3] := by rw [List.replicate_succ']
set_option maxRecDepth 100000 in
set_option maxHeartbeats 8000000 in
theorem limit_walk (n : Int) (la : Option Addr) (len cap : Nat) (zs : List Int) (w : World) (_k0 : 0 ≤ n) (_k1 : n ≤ 255) (hr : IsRow .i64 w la len cap zs) (h : Flg w) :
    Calls Tryd.prog 6 #[.int .u8 n, .slice la len cap] w fun e w' => e = .returned (.bool true) ∧ Below w.heap.size w w' := by
  obtain ⟨hl, hb⟩ := row_lin hr
  have H0 := Lib.hid (fun wr (b : Below w.heap.size w wr) => h.below b)
  have HL := Lib.hid (fun wr (b : Below w.heap.size w wr) => hl.below b)
  have HB := Lib.hid hb
  have hln := Lib.hid hl.len
  have hcap := hl.cap
  have hmax := hl.max
  unfold maxLen at hmax
  clear h hr hl hb
  by_cases h30 : 30 < len
  · go_enter Tryd.func6, Tryd.ntmps6
    go_wp2_with fail
    refine (awake_is _ (H0.out _ (Below.refl _ _))).mono ?_; rintro e w4 ⟨rfl, b4⟩
    have BZ := Lib.hid b4
    clear b4
    go_wp2
    go_ret
    exact ⟨rfl, BZ.out⟩
  · obtain ⟨i0, hi, hz0, hz1, hz2⟩ := info_parts infoI
    obtain ⟨C, hC⟩ : ∃ C : Nat, n % 11 = (C : Int) := ⟨(n % 11).toNat, by omega⟩
    have hC10 : C ≤ 10 := by omega
    go_enter Tryd.func6, Tryd.ntmps6
    go_wp2_with fail
    (try rw [hC])
    clear hC _k0 _k1
    go_loopw [6, 7] (fun p i wr => ∃ k : Nat, k ≤ C ∧ i = .int .i64 k ∧ Hid (OwnI wr w.heap.size p (List.replicate k 3)) ∧ Hid (Below w.heap.size w wr)) (fun _ i _ => C - (intOf i).toNat)
    case atStart => exact ⟨0, Nat.zero_le _, rfl, AggsAt.nil _ _ _ _ _, Below.refl _ _⟩
    case round =>
      obtain ⟨k, hk, rfl, own, bel⟩ := hrel
      by_cases hlt : k < C
      · have own2 := Lib.hid (AggsAt.alloc own.out (.cells #[.int .i64 3] 3))
        have bel2 := Lib.hid (bel.out.trans ((below_box wr (.cells #[.int .i64 3] 3)).mono bel.out.size))
        clear own bel
        go_wp2_with (at_builtin; go_must (refine wpList_append_own _ rfl (.tmp 26) (.tmp 27) 22 rfl w.heap.size 3 i0 _ 1 8 Tryd.underlying22 hi hz0 hz1 hz2 rfl (by decide) u6 (List.replicate k (3 : Int)).length (flat encI (List.replicate k 3)) rfl own2.out _ 1 1 (encI 3) rfl rfl ?qc1 ?qc2 ?qc3 ?qc4 ?qc5 ?_))
        case qc1 => exact cell_newI _ _ rfl _ _
        case qc2 => exact encI_one _
        case qc3 => rw [List.length_replicate]; unfold maxLen; omega
        case qc4 => rw [List.length_replicate]; omega
        case qc5 => exact bel2.out.size
        intro v' w5 hown' hgrow hnil'
        have NU : Hid (OwnI w5 w.heap.size v' (List.replicate (k + 1) 3)) := by
          show OwnI _ _ _ _
          rw [rep_snoc]; exact AggsAt.push (by rw [List.length_replicate]; exact hown')
        have B5 := Lib.hid (bel2.out.grown hgrow bel2.out.size (fun q hq => (World.ownsRow.lt own2.out q hq).1))
        clear hown' hgrow hnil' own2 bel2
        go_wp2
        go_roundw
        case rel => exact ⟨k + 1, by omega, by go_num, NU, B5⟩
        case measure => simp [intOf]; omega
      · obtain rfl : k = C := by omega
        go_wp2
        go_loopw [6, 31] (fun p i wr => ∃ (j : Nat) (Y : List Int), j ≤ len ∧ i = .int .i64 j ∧ Y.length = j ∧ Hid (∀ y ∈ Y, 1 ≤ y ∧ y ≤ 2) ∧ Hid (OwnI wr w.heap.size p (List.replicate k 3 ++ Y)) ∧ Hid (Below w.heap.size w wr)) (fun _ i _ => len - (intOf i).toNat)
        case atStart => exact ⟨0, [], Nat.zero_le _, rfl, rfl, no_els, by show OwnI _ _ _ _; rw [List.append_nil]; exact own.out, bel⟩
        case round =>
          clear own bel
          obtain ⟨j, Y, hj, rfl, hY, hYa, own, bel⟩ := hrel
          by_cases hjl : j < len
          · obtain ⟨g, o, rfl, hg, hc⟩ := (HL.out _ bel.out).rin.some (by rw [hln.out]; omega)
            have c0 := cells_i hc j (by rw [hln.out]; exact hjl)
            obtain ⟨x0, x1⟩ := HB.out j hjl
            generalize at0 (zs.take len) j = x at c0 x0 x1
            clear hc hg
            have hY' := Lib.hid hY
            clear hY
            go_wp2_with fail
            refine (mod_any x 2 _ (by omega) (by omega) x0 x1).mono ?_; rintro e w1 ⟨r, rfl, r0, r1, rfl⟩
            have own2 := Lib.hid (AggsAt.alloc own.out (.cells #[.int .i64 (1 + r)] 3))
            have bel2 := Lib.hid (bel.out.trans ((below_box wr (.cells #[.int .i64 (1 + r)] 3)).mono bel.out.size))
            have hlen : (List.replicate k (3 : Int) ++ Y).length = k + j := by rw [List.length_append, List.length_replicate, hY'.out]
            have HLEN := Lib.hid hlen
            clear own bel c0 hlen
            go_wp2_with (at_builtin; go_must (refine wpList_append_own _ rfl (.tmp 35) (.tmp 39) 22 rfl w.heap.size 3 i0 _ 1 8 Tryd.underlying22 hi hz0 hz1 hz2 rfl (by decide) u6 (List.replicate k (3 : Int) ++ Y).length (flat encI (List.replicate k 3 ++ Y)) rfl own2.out _ 1 1 (encI (1 + r)) rfl rfl ?qc1 ?qc2 ?qc3 ?qc4 ?qc5 ?_))
            case qc1 => exact cell_newI _ _ rfl _ _
            case qc2 => exact encI_one _
            case qc3 => rw [HLEN.out]; unfold maxLen; omega
            case qc4 => rw [HLEN.out]; omega
            case qc5 => exact bel2.out.size
            intro v' w5 hown' hgrow hnil'
            have NU : Hid (OwnI w5 w.heap.size v' (List.replicate k 3 ++ (Y ++ [1 + r]))) := by
              show OwnI _ _ _ _
              rw [← List.append_assoc]; exact AggsAt.push (by rw [List.length_append, List.length_replicate]; exact hown')
            have NY : Hid (∀ y ∈ Y ++ [1 + r], 1 ≤ y ∧ y ≤ 2) := fun y hy => by
              rcases List.mem_append.1 hy with h | h
              · exact hYa.out y h
              · rw [List.mem_singleton] at h; subst h; omega
            have B5 := Lib.hid (bel2.out.grown hgrow bel2.out.size (fun q hq => (World.ownsRow.lt own2.out q hq).1))
            clear hown' hgrow hnil' own2 bel2 hYa
            go_wp2
            go_roundw
            case rel => exact ⟨j + 1, Y ++ [1 + r], by omega, by go_num, by rw [List.length_append, hY'.out]; rfl, NY, NU, B5⟩
            case measure => simp [intOf]; omega
          · obtain ⟨am, cm, e, lm, -⟩ := own.out.lin
            subst e
            have hlen : (List.replicate k (3 : Int) ++ Y).length ≤ 40 := by rw [List.length_append, List.length_replicate, hY]; omega
            obtain ⟨m1, m2⟩ := lim_masks (C := k) hYa.out
            generalize List.replicate k (3 : Int) ++ Y = xs at *
            obtain ⟨L, hL⟩ : ∃ L, xs.length = L := ⟨_, rfl⟩
            rw [hL] at lm hlen ⊢
            have LM := Lib.hid lm
            have M1 := Lib.hid m1
            have M2 := Lib.hid m2
            have CN := Lib.hid (count_is am L cm xs _ (H0.out _ bel.out) lm (by omega))
            clear lm m1 m2 own hYa hY hL
            go_wp2_with fail
            refine CN.out.mono ?_; rintro e w5 ⟨rfl, b5⟩
            have B5 := Lib.hid (bel.out.trans (b5.mono bel.out.size))
            have AL := Lib.hid (all_is am L cm xs _ (H0.out _ B5.out) (LM.out.below b5) (by omega))
            clear b5
            by_cases h8 : 8 < k
            · obtain ⟨e1, e2⟩ := count_many M1.out (by rw [M2.out]; exact h8)
              rw [e1, e2]
              have E2 := Lib.hid e2
              clear e1 e2
              go_wp2_with fail
              refine AL.out.mono ?_; rintro e w6 ⟨v, rfl, hv, b6⟩
              rw [E2.out, if_neg (by decide)] at hv
              rw [E2.out]
              obtain ⟨a6, c6, rfl, -, -⟩ := hv.length
              have B6 := Lib.hid (B5.out.trans (b6.mono B5.out.size))
              clear hv b6
              go_wp2_with fail
              refine (awake_is _ (H0.out _ B6.out)).mono ?_; rintro e w7 ⟨rfl, b7⟩
              have B7 := Lib.hid (B6.out.trans (b7.mono B6.out.size))
              clear b7
              go_wp2
              go_ret
              exact ⟨rfl, B7.out⟩
            · obtain ⟨e1, e2⟩ := count_yes M1.out (by rw [M2.out]; omega)
              rw [M2.out] at e1
              rw [e1, e2]
              have E2 := Lib.hid e2
              clear e1 e2
              go_wp2_with fail
              refine AL.out.mono ?_; rintro e w6 ⟨v, rfl, hv, b6⟩
              rw [E2.out, if_pos rfl] at hv
              rw [E2.out]
              obtain ⟨a6, c6, rfl, -, -⟩ := hv.length
              rw [allL_len, M2.out]
              have B6 := Lib.hid (B5.out.trans (b6.mono B5.out.size))
              clear hv b6 CN AL M2
              rcases (show k = 0 ∨ k = 1 ∨ k = 2 ∨ k = 3 ∨ k = 4 ∨ k = 5 ∨ k = 6 ∨ k = 7 ∨ k = 8 by omega) with rfl | rfl | rfl | rfl | rfl | rfl | rfl | rfl | rfl
              all_goals (
                go_wp2_with fail
                refine (awake_is _ (H0.out _ B6.out)).mono ?_; rintro e w7 ⟨rfl, b7⟩
                have B7 := Lib.hid (B6.out.trans (b7.mono B6.out.size))
                clear b7
                go_wp2
                go_ret
                exact ⟨rfl, B7.out⟩)
end Go.Proofs.YtpobgdolhdlmeaaDoor.msk
