/- The walks of layer 4 on words: the kind of a word, a number behind a word, the node with a name. Condition: the table 'classes' holds what its text lays. -/
import Derived.Test.YtdgllaiejhnjmaaDoorMdM
import Derived.Test.YtdgllaiejhnjmaaDoorNetD
import Derived.Test.YtdgllaiejhnjmaaDoorNumP
namespace Go.Proofs.YtdgllaiejhnjmaaDoor.mod
open Go.RowKit lex net aggs kit strs

theorem data_eq {s : ByteArray} {l : List UInt8} : (s.toList == (bs l).toList) = decide (s.data.toList = l) := by
  rw [str_eq, decide_eq_decide]
  exact ⟨fun h => by rw [h, bs_data], fun h => by rw [← h, bs_of]⟩
theorem eqT {s : ByteArray} {l : List UInt8} (h : s.data.toList = l) : (s.toList == l) = true := by rw [Lib.toList_data, h]; exact beq_self_eq_true l
theorem eqF {s : ByteArray} {l : List UInt8} (h : s.data.toList ≠ l) : (s.toList == l) = false := by rw [Lib.toList_data]; exact beq_eq_false_iff_ne.2 h
set_option maxRecDepth 100000 in
set_option maxHeartbeats 1000000 in
theorem kindNamed_any (s : ByteArray) (w : World) :
    Calls Tryd.prog 47 #[.string s] w fun e w' => e = .returned (.int .i64 (kindOf s.data.toList)) ∧ w = w' := by
  by_cases c6 : s.data.toList = kw 6
  · have e : kindOf s.data.toList = 6 := by rw [c6]; rfl
    rw [e]
    have T6 : (s.toList == [103, 101, 110, 101, 114, 97, 116, 111, 114]) = true := eqT c6
    clear e c6
    go_enter Tryd.func47, Tryd.ntmps47
    go_wp2
    go_ret
    exact ⟨rfl, rfl⟩
  · skip
    by_cases c5 : s.data.toList = kw 5
    · have e : kindOf s.data.toList = 5 := by rw [c5]; rfl
      rw [e]
      have T6 : (s.toList == [103, 101, 110, 101, 114, 97, 116, 111, 114]) = false := eqF c6
      have T5 : (s.toList == [105, 110, 102, 101, 101, 100]) = true := eqT c5
      clear e c6 c5
      go_enter Tryd.func47, Tryd.ntmps47
      go_wp2
      go_ret
      exact ⟨rfl, rfl⟩
    · skip
      by_cases c4 : s.data.toList = kw 4
      · have e : kindOf s.data.toList = 4 := by rw [c4]; rfl
        rw [e]
        have T6 : (s.toList == [103, 101, 110, 101, 114, 97, 116, 111, 114]) = false := eqF c6
        have T5 : (s.toList == [105, 110, 102, 101, 101, 100]) = false := eqF c5
        have T4 : (s.toList == [101, 97, 114, 116, 104]) = true := eqT c4
        clear e c6 c5 c4
        go_enter Tryd.func47, Tryd.ntmps47
        go_wp2
        go_ret
        exact ⟨rfl, rfl⟩
      · skip
        by_cases c3 : s.data.toList = kw 3
        · have e : kindOf s.data.toList = 3 := by rw [c3]; rfl
          rw [e]
          have T6 : (s.toList == [103, 101, 110, 101, 114, 97, 116, 111, 114]) = false := eqF c6
          have T5 : (s.toList == [105, 110, 102, 101, 101, 100]) = false := eqF c5
          have T4 : (s.toList == [101, 97, 114, 116, 104]) = false := eqF c4
          have T3 : (s.toList == [100, 105, 115, 99, 111, 110, 110, 101, 99, 116, 111, 114]) = true := eqT c3
          clear e c6 c5 c4 c3
          go_enter Tryd.func47, Tryd.ntmps47
          go_wp2
          go_ret
          exact ⟨rfl, rfl⟩
        · skip
          by_cases c2 : s.data.toList = kw 2
          · have e : kindOf s.data.toList = 2 := by rw [c2]; rfl
            rw [e]
            have T6 : (s.toList == [103, 101, 110, 101, 114, 97, 116, 111, 114]) = false := eqF c6
            have T5 : (s.toList == [105, 110, 102, 101, 101, 100]) = false := eqF c5
            have T4 : (s.toList == [101, 97, 114, 116, 104]) = false := eqF c4
            have T3 : (s.toList == [100, 105, 115, 99, 111, 110, 110, 101, 99, 116, 111, 114]) = false := eqF c3
            have T2 : (s.toList == [98, 114, 101, 97, 107, 101, 114]) = true := eqT c2
            clear e c6 c5 c4 c3 c2
            go_enter Tryd.func47, Tryd.ntmps47
            go_wp2
            go_ret
            exact ⟨rfl, rfl⟩
          · skip
            by_cases c1 : s.data.toList = kw 1
            · have e : kindOf s.data.toList = 1 := by rw [c1]; rfl
              rw [e]
              have T6 : (s.toList == [103, 101, 110, 101, 114, 97, 116, 111, 114]) = false := eqF c6
              have T5 : (s.toList == [105, 110, 102, 101, 101, 100]) = false := eqF c5
              have T4 : (s.toList == [101, 97, 114, 116, 104]) = false := eqF c4
              have T3 : (s.toList == [100, 105, 115, 99, 111, 110, 110, 101, 99, 116, 111, 114]) = false := eqF c3
              have T2 : (s.toList == [98, 114, 101, 97, 107, 101, 114]) = false := eqF c2
              have T1 : (s.toList == [108, 105, 110, 101]) = true := eqT c1
              clear e c6 c5 c4 c3 c2 c1
              go_enter Tryd.func47, Tryd.ntmps47
              go_wp2
              go_ret
              exact ⟨rfl, rfl⟩
            · skip
              have e : kindOf s.data.toList = 0 := by unfold kindOf; rw [if_neg c1, if_neg c2, if_neg c3, if_neg c4, if_neg c5, if_neg c6]
              rw [e]
              have T6 : (s.toList == [103, 101, 110, 101, 114, 97, 116, 111, 114]) = false := eqF c6
              have T5 : (s.toList == [105, 110, 102, 101, 101, 100]) = false := eqF c5
              have T4 : (s.toList == [101, 97, 114, 116, 104]) = false := eqF c4
              have T3 : (s.toList == [100, 105, 115, 99, 111, 110, 110, 101, 99, 116, 111, 114]) = false := eqF c3
              have T2 : (s.toList == [98, 114, 101, 97, 107, 101, 114]) = false := eqF c2
              have T1 : (s.toList == [108, 105, 110, 101]) = false := eqF c1
              clear e c1 c2 c3 c4 c5 c6
              go_enter Tryd.func47, Tryd.ntmps47
              go_wp2
              go_ret
              exact ⟨rfl, rfl⟩
theorem kindNamed_is (s : ByteArray) (k : Int) (hk : kindOf s.data.toList = k) (w : World) :
    Calls Tryd.prog 47 #[.string s] w fun e w' => e = .returned (.int .i64 k) ∧ w = w' := by subst hk; exact kindNamed_any s w

set_option maxRecDepth 100000 in
set_option maxHeartbeats 1000000 in
theorem numberBehind_is (x s y : ByteArray) (g o n c : Nat) (v : Int) (b : Bool) (w : World) (h : HasClasses w) (hn : 2 ≤ n) (hx : w.cell? ⟨g, o, none⟩ = some (.string s)) (hy : w.cell? ⟨g, o + 1, none⟩ = some (.string y)) (hs : y.size ≤ maxLen)
    (hv : (if s = x ∧ numB y.data.toList lim = true then numV y.data.toList lim else 0) = v) (hb : (decide (s = x) && numB y.data.toList lim) = b) :
    Calls Tryd.prog 60 #[.string x, .slice (some ⟨g, o, none⟩) n c] w fun e w' => e = .returned (.tuple #[.int .i64 v, .bool b]) ∧ w = w' := by
  by_cases e : s = x
  · have T : (s.toList == x.toList) = true := by rw [str_eq]; exact decide_eq_true e
    have hb' : numB y.data.toList lim = b := by rw [← hb, decide_eq_true e]; rfl
    have hv' : numV y.data.toList lim = v := by
      rw [← hv]
      by_cases e2 : numB y.data.toList lim = true
      · rw [if_pos ⟨e, e2⟩]
      · rw [if_neg (fun h => e2 h.2), numV_no (Bool.eq_false_iff.2 e2)]
    have N := Lib.hid (fun W (hW : HasClasses W) => number_any y lim W hW hs (by unfold lim; omega) (by unfold lim; omega))
    have H := Lib.hid h
    unfold lim at hb' hv'
    have HB := Lib.hid hb'
    have HV := Lib.hid hv'
    clear e hb hv hb' hv' h
    go_enter Tryd.func60, Tryd.ntmps60
    go_wp2_with fail
    refine (N.out _ H.out).mono ?_; rintro e w' ⟨rfl, rfl⟩
    go_wp2
    go_ret2
    exact ⟨ret_num HV.out HB.out, rfl⟩
  · have T : (s.toList == x.toList) = false := by rw [str_eq]; exact decide_eq_false e
    have hb' : b = false := by rw [← hb, decide_eq_false e]; rfl
    have hv' : v = 0 := by rw [← hv, if_neg (fun h => e h.1)]
    subst hb' hv'
    clear e hb hv h
    go_enter Tryd.func60, Tryd.ntmps60
    go_wp2
    go_ret2
    exact ⟨rfl, rfl⟩

/-! the node with a name -/
set_option maxRecDepth 100000 in
theorem nameIs_is (x : Nd) (s : ByteArray) (b : Nat) (r : Bool) (w : World) (hb : w.cell? ⟨b, 0, none⟩ = some (.string s)) (hr : decide (x.nm = s) = r) :
    Calls Tryd.prog 67 #[.agg #[.string x.nm, .int .i64 x.cu, .int .i64 x.co], .pointer (some ⟨b, 0, none⟩)] w fun e w' => e = .returned (.bool r) ∧ Below w.heap.size w w' := by
  obtain ⟨nm, cu, co⟩ := x
  dsimp only at hr ⊢
  have BX := Lib.hid (below_box w (.cells #[.string nm, .int .i64 cu, .int .i64 co] 51))
  have hc := ((BX.out).cell (p := ⟨b, 0, none⟩) (World.block_lt_of_cell? w _ hb)).trans hb
  have T : (nm.toList == s.toList) = r := by rw [str_eq]; exact hr
  clear hb hr
  go_enter Tryd.func67, Tryd.ntmps67
  go_wp2
  go_ret
  exact ⟨rfl, BX.out⟩
set_option maxRecDepth 100000 in
set_option maxHeartbeats 1000000 in
theorem indexFunc_is (a : Option Addr) (n c b : Nat) (s : ByteArray) (xs : List Nd) (r : Int) (w : World) (hb : w.cell? ⟨b, 0, none⟩ = some (.string s)) (hn : xs.length = n) (h : RIn encNd 3 w a xs) (hl : n ≤ maxLen) (hr : fnd (nmsN xs) s = r) :
    Calls Tryd.prog 66 #[.slice a n c, .func (.func 67) #[] #[.pointer (some ⟨b, 0, none⟩)]] w fun e w' => e = .returned (.int .i64 r) ∧ Below w.heap.size w w' := by
  unfold maxLen at hl
  have HN := Lib.hid hn
  have HR := Lib.hid hr
  have HB := Lib.hid hb
  have hml : Hid ((nmsN xs).length = n) := by show _ = n; rw [← hn]; simp [nmsN]
  have hmg : Hid (∀ i (hi : i < xs.length), ∃ hi' : i < (nmsN xs).length, (nmsN xs)[i] = xs[i].nm) := fun i hi => ⟨by rw [hml.out, ← HN.out]; exact hi, by simp [nmsN]⟩
  by_cases hp : 0 < n
  · obtain ⟨g, o, rfl, hg, hc⟩ := h.some (by omega)
    have HC := Lib.hid hc
    clear hc hn hr h hb
    go_enter Tryd.func66, Tryd.ntmps66
    go_wp2_with fail
    go_loopw [8] (fun i wr => ∃ j : Nat, j ≤ n ∧ i = .int .i64 j ∧ Hid (Below w.heap.size w wr) ∧ Hid (∀ i (hi : i < (nmsN xs).length), i < j → (nmsN xs)[i] ≠ s)) (fun i _ => n - (intOf i).toNat)
    case atStart => exact ⟨0, Nat.zero_le _, rfl, Below.refl _ _, fun i hi h => by cases h⟩
    case round =>
      obtain ⟨j, hj, rfl, bel, hno⟩ := hrel
      by_cases hjn : j < n
      · have hjx : j < xs.length := by rw [HN.out]; exact hjn
        have HC2 := HC.out.below bel.out
        obtain ⟨c0, c1, c2⟩ := cells_nd HC2 j hjx
        have hb2 : wr.cell? ⟨b, 0, none⟩ = some (.string s) := (bel.out.cell (p := ⟨b, 0, none⟩) (World.block_lt_of_cell? w _ HB.out)).trans HB.out
        obtain ⟨x, hx⟩ : ∃ x, xs[j] = x := ⟨_, rfl⟩
        rw [hx] at c0 c1 c2
        have HX := Lib.hid hx
        by_cases e : x.nm = s
        · have hr' : r = j := by
            obtain ⟨hi', he⟩ := hmg.out j hjx
            rw [← HR.out]; exact fnd_hit hi' (he.trans ((congrArg Nd.nm hx).trans e)) hno.out
          have NI := Lib.hid (nameIs_is x s b true wr hb2 (decide_eq_true e))
          clear e HX hjx hx hb2 HC2
          subst hr'
          go_wp2_with fail
          refine NI.out.mono ?_; rintro e w2 ⟨rfl, b2⟩
          have BL := Lib.hid (bel.out.trans (b2.mono bel.out.size))
          clear b2
          go_wp2
          go_ret
          exact ⟨rfl, BL.out⟩
        · have hnext : Hid (∀ i (hi : i < (nmsN xs).length), i < j + 1 → (nmsN xs)[i] ≠ s) := fun i hi hij => by
            by_cases e1 : i = j
            · subst e1; obtain ⟨_, he⟩ := hmg.out i hjx; rw [he, hx]; exact e
            · exact hno.out i hi (by omega)
          have NI := Lib.hid (nameIs_is x s b false wr hb2 (decide_eq_false e))
          clear e HX hjx hno hx hb2 HC2
          go_wp2_with fail
          refine NI.out.mono ?_; rintro e w2 ⟨rfl, b2⟩
          have BL := Lib.hid (bel.out.trans (b2.mono bel.out.size))
          clear b2
          go_wp2
          go_roundw
          case rel => exact ⟨j + 1, by omega, by go_num, BL, hnext⟩
          case measure => simp [intOf]; omega
      · obtain rfl : j = n := by omega
        have hr' : r = -1 := by rw [← HR.out]; exact fnd_none (fun i hi => hno.out i hi (by rw [← hml.out]; exact hi))
        subst hr'
        go_wp2
        go_ret
        exact ⟨rfl, bel.out⟩
  · obtain rfl : n = 0 := by omega
    have hr' : r = -1 := by rw [← HR.out]; exact fnd_none (fun i hi => by rw [hml.out] at hi; cases hi)
    subst hr'
    clear hn hr h hb
    go_enter Tryd.func66, Tryd.ntmps66
    go_wp2
    refine wp_loop_rounds 1 ?_; rw [rounds_succ]
    go_wp2
    go_ret
    exact ⟨rfl, Below.refl _ _⟩
set_option maxRecDepth 100000 in
theorem nodeNamed_is (a : Option Addr) (n c : Nat) (s : ByteArray) (xs : List Nd) (r : Int) (w : World) (hn : xs.length = n) (h : RIn encNd 3 w a xs) (hl : n ≤ maxLen) (hr : fnd (nmsN xs) s = r) :
    Calls Tryd.prog 61 #[.slice a n c, .string s] w fun e w' => e = .returned (.int .i64 r) ∧ Below w.heap.size w w' := by
  have BX := Lib.hid (below_box w (.cells #[.string s] 9))
  have IX := Lib.hid (indexFunc_is a n c w.heap.size s xs r (w.alloc (.cells #[.string s] 9)) (by rw [World.cell?_alloc_new]; rfl) hn (h.below BX.out) hl hr)
  clear hn h hl hr
  go_enter Tryd.func61, Tryd.ntmps61
  go_wp2_with fail
  refine IX.out.mono ?_; rintro e w2 ⟨rfl, b2⟩
  have BL := Lib.hid (BX.out.trans (b2.mono BX.out.size))
  clear b2
  go_wp2
  go_ret
  exact ⟨rfl, BL.out⟩
end Go.Proofs.YtdgllaiejhnjmaaDoor.mod
