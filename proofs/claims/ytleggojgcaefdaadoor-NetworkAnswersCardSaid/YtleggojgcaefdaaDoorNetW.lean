/- The reference's Node, Device, At, Ints and Way of layer 3. -/
import Derived.Test.YtleggojgcaefdaaDoorNetV
namespace Go.Proofs.YtleggojgcaefdaaDoor.net
open Go.RowKit lex aggs kit deck

set_option maxRecDepth 100000 in
set_option maxHeartbeats 2000000 in
theorem rnode_is (a b : Option Addr) (N c M d : Nat) (ns : List Nd) (ds : List Dv) (s : ByteArray) (r : Int) (w : World) (h : NetIn w a b N c M d ns ds) (hr : (if chk ns ds = 0 then fnd (nmsN ns) s else -1) = r) :
    Calls Tryd.prog 19 #[.agg #[.slice a N c, .slice b M d], .string s] w fun e w' => e = .returned (.int .i64 r) ∧ Below w.heap.size w w' := by
  have bx := below_box w (.cells #[.slice a N c, .slice b M d] 26)
  have NT := Lib.hid (NtAt.new w (.slice a N c) (.slice b M d) 26)
  have hb := Lib.hid (h.below bx)
  have m1 := h.ncap
  have m2 := h.nmax
  unfold maxLen at m2
  obtain ⟨E, hE⟩ : ∃ E, chk ns ds = E := ⟨_, rfl⟩
  have CK := Lib.hid (rcheck_is a b N c M d ns ds E _ hb.out hE)
  rw [hE] at hr
  have BX := Lib.hid bx
  have HR := Lib.hid hr
  clear bx hE hr h
  by_cases e0 : E = 0
  · subst e0
    have hr2 : Hid (fnd (nmsN ns) s = r) := by have h := HR.out; rw [if_pos rfl] at h; exact h
    go_enter Tryd.func19, Tryd.ntmps19
    go_wp2_with fail
    refine CK.out.mono ?_; rintro e w2 ⟨rfl, b2⟩
    have B2 := Lib.hid (BX.out.trans (b2.mono BX.out.size))
    obtain ⟨k1, k2, k3⟩ := NT.out.below b2 NT.out.2.2
    have hn2 := Lib.hid (hb.out.below b2)
    have HL := Lib.hid hn2.out.nlen
    clear b2
    go_wp2_with fail
    go_loop [5] (fun i => ∃ j : Nat, j ≤ N ∧ i = .int .i64 j ∧ Hid (∀ i (hi : i < (nmsN ns).length), i < j → (nmsN ns)[i] ≠ s)) (fun i => N - (intOf i).toNat)
    case atStart => exact ⟨0, Nat.zero_le _, rfl, fun i hi h => by cases h⟩
    case round =>
      obtain ⟨j, hj, rfl, hno⟩ := hrel
      by_cases hjn : j < N
      · have hjx : j < ns.length := by rw [HL.out]; exact hjn
        obtain ⟨g, o, hbe, hg, hcd⟩ := hn2.out.nin.some (by omega)
        subst hbe
        obtain ⟨c0, -⟩ := cells_nd hcd j hjx
        have hget : (nmsN ns)[j]? = some ns[j].nm := by simp [nmsN, hjx]
        obtain ⟨x, hx⟩ : ∃ x, ns[j].nm = x := ⟨_, rfl⟩
        rw [hx] at c0 hget
        have HG := Lib.hid hget
        clear hx hcd hget
        by_cases e : x = s
        · have hr' : r = j := by
            have hg := HG.out
            obtain ⟨hi', he⟩ := List.getElem?_eq_some_iff.1 hg
            rw [← hr2.out]; exact fnd_hit hi' (he.trans e) hno.out
          have T : (x.toList == s.toList) = true := by rw [str_eq]; exact decide_eq_true e
          clear e HG hjx
          subst hr'
          go_wp2
          go_ret
          exact ⟨rfl, B2.out⟩
        · have T : (x.toList == s.toList) = false := by rw [str_eq]; exact decide_eq_false e
          have hnext : Hid (∀ i (hi : i < (nmsN ns).length), i < j + 1 → (nmsN ns)[i] ≠ s) := fun i hi hij => by
            by_cases e1 : i = j
            · subst e1
              have hg := HG.out
              rw [List.getElem?_eq_getElem hi] at hg
              injection hg with hg
              rw [hg]; exact e
            · exact hno.out i hi (by omega)
          clear e HG hjx hno
          go_wp2
          go_round
          case rel => exact ⟨j + 1, by omega, by go_num, hnext⟩
          case measure => simp [intOf]; omega
      · obtain rfl : j = N := by omega
        have hr' : r = -1 := by rw [← hr2.out]; exact fnd_none (fun i hi => hno.out i hi (by rw [← HL.out]; simpa [nmsN] using hi))
        subst hr'
        go_wp2
        go_ret
        exact ⟨rfl, B2.out⟩
  · have e : r = -1 := by rw [← HR.out, if_neg e0]
    have T := bne_t e0
    subst e
    clear e0
    go_enter Tryd.func19, Tryd.ntmps19
    go_wp2_with fail
    refine CK.out.mono ?_; rintro e w2 ⟨rfl, b2⟩
    have B2 := Lib.hid (BX.out.trans (b2.mono BX.out.size))
    clear b2
    go_wp2
    go_ret
    exact ⟨rfl, B2.out⟩
set_option maxRecDepth 100000 in
set_option maxHeartbeats 2000000 in
theorem rdevice_is (a b : Option Addr) (N c M d : Nat) (ns : List Nd) (ds : List Dv) (s : ByteArray) (r : Int) (w : World) (h : NetIn w a b N c M d ns ds) (hr : (if chk ns ds = 0 then fnd (nmsD ds) s else -1) = r) :
    Calls Tryd.prog 21 #[.agg #[.slice a N c, .slice b M d], .string s] w fun e w' => e = .returned (.int .i64 r) ∧ Below w.heap.size w w' := by
  have bx := below_box w (.cells #[.slice a N c, .slice b M d] 26)
  have NT := Lib.hid (NtAt.new w (.slice a N c) (.slice b M d) 26)
  have hb := Lib.hid (h.below bx)
  have m1 := h.dcap
  have m2 := h.dmax
  unfold maxLen at m2
  obtain ⟨E, hE⟩ : ∃ E, chk ns ds = E := ⟨_, rfl⟩
  have CK := Lib.hid (rcheck_is a b N c M d ns ds E _ hb.out hE)
  rw [hE] at hr
  have BX := Lib.hid bx
  have HR := Lib.hid hr
  clear bx hE hr h
  by_cases e0 : E = 0
  · subst e0
    have hr2 : Hid (fnd (nmsD ds) s = r) := by have h := HR.out; rw [if_pos rfl] at h; exact h
    go_enter Tryd.func21, Tryd.ntmps21
    go_wp2_with fail
    refine CK.out.mono ?_; rintro e w2 ⟨rfl, b2⟩
    have B2 := Lib.hid (BX.out.trans (b2.mono BX.out.size))
    obtain ⟨k1, k2, k3⟩ := NT.out.below b2 NT.out.2.2
    have hn2 := Lib.hid (hb.out.below b2)
    have HL := Lib.hid hn2.out.dlen
    clear b2
    go_wp2_with fail
    go_loop [5] (fun i => ∃ j : Nat, j ≤ M ∧ i = .int .i64 j ∧ Hid (∀ i (hi : i < (nmsD ds).length), i < j → (nmsD ds)[i] ≠ s)) (fun i => M - (intOf i).toNat)
    case atStart => exact ⟨0, Nat.zero_le _, rfl, fun i hi h => by cases h⟩
    case round =>
      obtain ⟨j, hj, rfl, hno⟩ := hrel
      by_cases hjn : j < M
      · have hjx : j < ds.length := by rw [HL.out]; exact hjn
        obtain ⟨g, o, hbe, hg, hcd⟩ := hn2.out.din.some (by omega)
        subst hbe
        obtain ⟨c0, -⟩ := cells_dv hcd j hjx
        have hget : (nmsD ds)[j]? = some ds[j].nm := by simp [nmsD, hjx]
        obtain ⟨x, hx⟩ : ∃ x, ds[j].nm = x := ⟨_, rfl⟩
        rw [hx] at c0 hget
        have HG := Lib.hid hget
        clear hx hcd hget
        by_cases e : x = s
        · have hr' : r = j := by
            have hg := HG.out
            obtain ⟨hi', he⟩ := List.getElem?_eq_some_iff.1 hg
            rw [← hr2.out]; exact fnd_hit hi' (he.trans e) hno.out
          have T : (x.toList == s.toList) = true := by rw [str_eq]; exact decide_eq_true e
          clear e HG hjx
          subst hr'
          go_wp2
          go_ret
          exact ⟨rfl, B2.out⟩
        · have T : (x.toList == s.toList) = false := by rw [str_eq]; exact decide_eq_false e
          have hnext : Hid (∀ i (hi : i < (nmsD ds).length), i < j + 1 → (nmsD ds)[i] ≠ s) := fun i hi hij => by
            by_cases e1 : i = j
            · subst e1
              have hg := HG.out
              rw [List.getElem?_eq_getElem hi] at hg
              injection hg with hg
              rw [hg]; exact e
            · exact hno.out i hi (by omega)
          clear e HG hjx hno
          go_wp2
          go_round
          case rel => exact ⟨j + 1, by omega, by go_num, hnext⟩
          case measure => simp [intOf]; omega
      · obtain rfl : j = M := by omega
        have hr' : r = -1 := by rw [← hr2.out]; exact fnd_none (fun i hi => hno.out i hi (by rw [← HL.out]; simpa [nmsD] using hi))
        subst hr'
        go_wp2
        go_ret
        exact ⟨rfl, B2.out⟩
  · have e : r = -1 := by rw [← HR.out, if_neg e0]
    have T := bne_t e0
    subst e
    clear e0
    go_enter Tryd.func21, Tryd.ntmps21
    go_wp2_with fail
    refine CK.out.mono ?_; rintro e w2 ⟨rfl, b2⟩
    have B2 := Lib.hid (BX.out.trans (b2.mono BX.out.size))
    clear b2
    go_wp2
    go_ret
    exact ⟨rfl, B2.out⟩
set_option maxRecDepth 100000 in
set_option maxHeartbeats 4000000 in
theorem rat_is (a b : Option Addr) (N c M d : Nat) (ns : List Nd) (ds : List Dv) (v : Int) (w : World) (h : NetIn w a b N c M d ns ds) (v0 : -9223372036854775808 ≤ v) (v1 : v ≤ 9223372036854775807) :
    Calls Tryd.prog 25 #[.agg #[.slice a N c, .slice b M d], .int .i64 v] w (AtPost ns ds v w) := by
  have bx := below_box w (.cells #[.slice a N c, .slice b M d] 26)
  have NT := Lib.hid (NtAt.new w (.slice a N c) (.slice b M d) 26)
  have hb := Lib.hid (h.below bx)
  have m1 := h.ncap
  have m2 := h.nmax
  have n3 := h.dcap
  have n4 := h.dmax
  unfold maxLen at m2 n4
  obtain ⟨E, hE⟩ : ∃ E, chk ns ds = E := ⟨_, rfl⟩
  have CK := Lib.hid (rcheck_is a b N c M d ns ds E _ hb.out hE)
  have BX := Lib.hid bx
  have HE := Lib.hid hE
  have hn := Lib.hid h.nlen
  have hd := Lib.hid h.dlen
  obtain ⟨i0, hi, hz0, hz1, hz2⟩ := info_parts infoInt
  clear bx hE h
  by_cases e0 : E = 0
  · subst e0
    by_cases e2 : 0 ≤ v ∧ v < N
    · have hM : M ≤ 64 := by have := (chk_small HE.out).2; rw [hd.out] at this; exact this
      have WI : Hid (atR ns ds v = atL ds v) := by show _ = _; unfold atR; rw [if_pos ⟨HE.out, by rw [hn.out]; exact e2⟩]
      obtain ⟨e2, e3⟩ := e2
      go_enter Tryd.func25, Tryd.ntmps25
      go_wp2_with fail
      refine CK.out.mono ?_; rintro e w2 ⟨rfl, b2⟩
      have B2 := Lib.hid (BX.out.trans (b2.mono BX.out.size))
      have NT2 := Lib.hid (NT.out.below b2 NT.out.2.2)
      obtain ⟨k1, k2, k3⟩ := NT2.out
      have hn2 := Lib.hid (hb.out.below b2)
      clear b2
      have T1 : decide (v < 0) = false := decide_eq_false (by omega)
      have T2 : decide ((N : Int) ≤ v) = false := decide_eq_false (by omega)
      clear e2 e3
      go_wp2_with fail
      obtain ⟨y, hy⟩ : ∃ y, w2.heap.size = y := ⟨_, rfl⟩
      have hxy : w.heap.size < y := by rw [← hy]; exact k3
      have NW := Lib.hid (fun wr (bel : Below y w2 wr) => hn2.out.below (w' := wr) (by rw [hy]; exact bel))
      go_loopw [5, 6] (fun p i wr => ∃ j : Nat, j ≤ M ∧ i = .int .i64 j ∧ Hid (NumsAt wr y p ((List.range j).filter (atB ds v))) ∧ Hid (Below y w2 wr)) (fun _ i _ => M - (intOf i).toNat)
      case atStart => exact ⟨0, Nat.zero_le _, rfl, nums_nil _ _, Below.refl _ _⟩
      case round => as_aux_lemma =>
        obtain ⟨j, hjM, rfl, nums, bel⟩ := hrel
        obtain ⟨k1, k2, -⟩ := NT2.out.below bel.out hxy
        by_cases hj : j < M
        · have hjd : j < ds.length := by rw [hd.out]; exact hj
          obtain ⟨g, o, hbe, hg, hcd⟩ := (NW.out _ bel.out).din.some (by omega)
          subst hbe
          obtain ⟨c0, c1, c2, c3, c4⟩ := cells_dv hcd j hjd
          obtain ⟨xd, hxd⟩ : ∃ x, ds[j] = x := ⟨_, rfl⟩
          have AB : Hid (atB ds v j = (decide (xd.a = v) || decide (xd.b = v))) := by show _ = _; unfold atB; rw [getD_of hjd, hxd]
          have hlen : ((List.range j).filter (atB ds v)).length ≤ 64 := Nat.le_trans (List.length_filter_le _ _) (by simp; omega)
          have FS := Lib.hid (filt_succ (atB ds v) j)
          obtain ⟨acc, hacc⟩ : ∃ l, (List.range j).filter (atB ds v) = l := ⟨_, rfl⟩
          rw [hacc] at nums hlen FS
          rw [hxd] at c0 c1 c2 c3 c4
          clear hxd hcd hjd hacc
          obtain ⟨nm, ki, da, db, co⟩ := xd
          dsimp only at c0 c1 c2 c3 c4 AB
          have hsz : y ≤ wr.heap.size := by have := bel.out.size; omega
          have nums2 : Hid (NumsAt (wr.alloc (.cells #[.int .i64 (j : Int)] 3)) y u5 acc) := AggsAt.alloc nums.out _
          have bel2 := Lib.hid (bel.out.trans ((below_box wr (.cells #[.int .i64 (j : Int)] 3)).mono hsz))
          clear c0 c1 c4
          by_cases h1 : da = v
          · have T := beq_iff_eq.2 h1
            have FS2 : Hid ((List.range (j + 1)).filter (atB ds v) = acc ++ [j]) := by show _ = _; rw [FS.out, AB.out, decide_eq_true h1]; rfl
            clear h1
            go_wp2_with (at_builtin; go_must (refine wpList_append_own _ rfl (.tmp 46) (.tmp 48) 22 rfl y 3 i0 _ 1 8 Tryd.underlying22 hi hz0 hz1 hz2 rfl (by decide) u5 acc.length (flat encN acc) rfl nums2.out _ 1 1 (encN j) rfl rfl ?qc1 ?qc2 ?qc3 ?qc4 ?qc5 ?_))
            case qc1 => exact cell_new1 _ _ (by simp) _ j
            case qc2 => exact encN_one j
            case qc3 => unfold maxLen; omega
            case qc4 => omega
            case qc5 => simp; omega
            intro v' w5 hown' hgrow hnil'
            have NU := Lib.hid (show NumsAt w5 y v' (acc ++ [j]) from AggsAt.push hown')
            have B5 := Lib.hid (bel2.out.grown hgrow (by simp; omega) (fun q hq => by have := (World.ownsRow.lt nums2.out q hq).1; exact this))
            clear hown' hgrow hnil' nums2 bel2 nums bel
            go_wp2
            go_roundw
            case rel => exact ⟨j + 1, by omega, by go_num, by rw [FS2.out]; exact NU.out, B5⟩
            case measure => simp [intOf]; omega
          · have T : (da == v) = false := beq_eq_false_iff_ne.2 h1
            by_cases h2 : db = v
            · have T2 := beq_iff_eq.2 h2
              have FS2 : Hid ((List.range (j + 1)).filter (atB ds v) = acc ++ [j]) := by show _ = _; rw [FS.out, AB.out, decide_eq_true h2, Bool.or_true]; rfl
              clear h1 h2
              go_wp2_with (at_builtin; go_must (refine wpList_append_own _ rfl (.tmp 46) (.tmp 48) 22 rfl y 3 i0 _ 1 8 Tryd.underlying22 hi hz0 hz1 hz2 rfl (by decide) u5 acc.length (flat encN acc) rfl nums2.out _ 1 1 (encN j) rfl rfl ?qc1 ?qc2 ?qc3 ?qc4 ?qc5 ?_))
              case qc1 => exact cell_new1 _ _ (by simp) _ j
              case qc2 => exact encN_one j
              case qc3 => unfold maxLen; omega
              case qc4 => omega
              case qc5 => simp; omega
              intro v' w5 hown' hgrow hnil'
              have NU := Lib.hid (show NumsAt w5 y v' (acc ++ [j]) from AggsAt.push hown')
              have B5 := Lib.hid (bel2.out.grown hgrow (by simp; omega) (fun q hq => by have := (World.ownsRow.lt nums2.out q hq).1; exact this))
              clear hown' hgrow hnil' nums2 bel2 nums bel
              go_wp2
              go_roundw
              case rel => exact ⟨j + 1, by omega, by go_num, by rw [FS2.out]; exact NU.out, B5⟩
              case measure => simp [intOf]; omega
            · have T2 : (db == v) = false := beq_eq_false_iff_ne.2 h2
              have FS2 : Hid ((List.range (j + 1)).filter (atB ds v) = acc) := by show _ = _; rw [FS.out, AB.out, decide_eq_false h1, decide_eq_false h2]; simp
              clear h1 h2 nums2 bel2
              go_wp2
              go_roundw
              case rel => exact ⟨j + 1, by omega, by go_num, by rw [FS2.out]; exact nums, bel⟩
              case measure => simp [intOf]; omega
        · obtain rfl : M = j := by omega
          have fin : Hid (NumsAt wr w.heap.size u5 (atR ns ds v)) := by
            show NumsAt _ _ _ _
            rw [WI.out]
            have := nums.out
            rw [← hd.out] at this
            exact AggsAt.mono this (by omega)
          have BF := Lib.hid (B2.out.trans (bel.out.mono (by omega)))
          clear nums bel
          go_wp2
          go_ret
          exact ⟨_, rfl, fin.out, BF.out⟩
    · have WI : Hid (atR ns ds v = []) := by show _ = _; unfold atR; rw [if_neg (by rw [hn.out]; exact fun h => e2 h.2)]
      by_cases e3 : v < 0
      · have T1 : decide (v < 0) = true := decide_eq_true e3
        clear e2 e3
        go_enter Tryd.func25, Tryd.ntmps25
        go_wp2_with fail
        refine CK.out.mono ?_; rintro e w2 ⟨rfl, b2⟩
        have B2 := Lib.hid (BX.out.trans (b2.mono BX.out.size))
        obtain ⟨k1, k2, k3⟩ := NT.out.below b2 NT.out.2.2
        clear b2
        go_wp2
        go_ret
        exact ⟨_, rfl, by rw [WI.out]; exact nums_nil _ _, B2.out⟩
      · have T1 : decide (v < 0) = false := decide_eq_false e3
        have T2 : decide ((N : Int) ≤ v) = true := decide_eq_true (by omega)
        clear e2 e3
        go_enter Tryd.func25, Tryd.ntmps25
        go_wp2_with fail
        refine CK.out.mono ?_; rintro e w2 ⟨rfl, b2⟩
        have B2 := Lib.hid (BX.out.trans (b2.mono BX.out.size))
        obtain ⟨k1, k2, k3⟩ := NT.out.below b2 NT.out.2.2
        clear b2
        go_wp2
        go_ret
        exact ⟨_, rfl, by rw [WI.out]; exact nums_nil _ _, B2.out⟩
  · have WI : Hid (atR ns ds v = []) := by show _ = _; unfold atR; rw [if_neg (by rw [HE.out]; exact fun h => e0 h.1)]
    have T := bne_t e0
    clear e0
    go_enter Tryd.func25, Tryd.ntmps25
    go_wp2_with fail
    refine CK.out.mono ?_; rintro e w2 ⟨rfl, b2⟩
    have B2 := Lib.hid (BX.out.trans (b2.mono BX.out.size))
    clear b2
    go_wp2
    go_ret
    exact ⟨_, rfl, by rw [WI.out]; exact nums_nil _ _, B2.out⟩
set_option maxRecDepth 100000 in
theorem rints_is (xs : List Nat) (v1 v2 : Value) (L b1 b2 : Nat) (w : World) (h1 : NumsAt w b1 v1 xs) (h2 : NumsAt w b2 v2 xs) (hL : xs.length = L) (hLm : L ≤ 100) :
    Calls Tryd.prog 23 #[v1, v2] w fun e w' => e = .returned (.bool true) ∧ Below w.heap.size w w' := by
  obtain ⟨r1, a1, c1, rfl, row1⟩ := nums_row h1
  obtain ⟨r2, a2, c2, rfl, row2⟩ := nums_row h2
  rw [hL] at row1 row2 ⊢
  have R1 := Lib.hid row1
  have R2 := Lib.hid row2
  have HLL := Lib.hid hL
  clear h1 h2 hL row1 row2
  go_enter Tryd.func23, Tryd.ntmps23
  go_wp2
  go_loopw [5] (fun i wr => ∃ j : Nat, j ≤ L ∧ i = .int .i64 j ∧ Hid (Below w.heap.size w wr)) (fun i _ => L - (intOf i).toNat)
  case atStart => exact ⟨0, Nat.zero_le _, rfl, Below.refl _ _⟩
  case round =>
    obtain ⟨j, hj, rfl, bel⟩ := hrel
    by_cases hjL : j < L
    · obtain ⟨rfl, q1, -⟩ := R1.out (by omega)
      obtain ⟨rfl, q2, -⟩ := R2.out (by omega)
      have hjx : j < xs.length := by rw [HLL.out]; exact hjL
      have f1 := (q1.below bel.out).2 j hjx
      have f2 := (q2.below bel.out).2 j hjx
      obtain ⟨x, hx⟩ : ∃ x, xs[j] = x := ⟨_, rfl⟩
      rw [hx] at f1 f2
      have bel2 := Lib.hid (fun n => below_drewN bel.out n)
      clear hx hjx q1 q2
      go_wp2
      go_quiet (fail)
      go_wp2
      go_roundw
      case rel => exact ⟨j + 1, by omega, by go_num, bel2.out _⟩
      case measure => simp [intOf]; omega
    · obtain rfl : L = j := by omega
      go_wp2
      go_ret
      exact ⟨rfl, bel.out⟩
end Go.Proofs.YtleggojgcaefdaaDoor.net
