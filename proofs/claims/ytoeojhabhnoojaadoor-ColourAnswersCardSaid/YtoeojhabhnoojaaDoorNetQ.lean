/- The walks of the reference of layer 3: Check. It computes what the program's own function computes. No condition. -/
import Derived.Test.YtoeojhabhnoojaaDoorNetN
import Derived.Test.YtoeojhabhnoojaaDoorNetRj
namespace Go.Proofs.YtoeojhabhnoojaaDoor.net
open Go.RowKit lex aggs kit deck

theorem rname_is (s : ByteArray) (b : Bool) (w : World) (hs : s.size ≤ maxLen) (hb : nameB s.data.toList = b) :
    Calls Tryd.prog 55 #[.string s] w fun e w' => e = .returned (.bool b) ∧ w = w' := by
  subst hb; exact rname_any s w hs
theorem nms_get (ns : List Nd) (k : Nat) (hk : k < ns.length) (hk' : k < (nmsN ns).length) : (nmsN ns)[k] = ns[k].nm := by simp [nmsN]
theorem dms_get (ds : List Dv) (k : Nat) (hk : k < ds.length) (hk' : k < (nmsD ds).length) : (nmsD ds)[k] = ds[k].nm := by simp [nmsD]
theorem find_take_none {l : List ByteArray} {s : ByteArray} {j : Nat} (h : ∀ k (hk : k < l.length), k < j → l[k] ≠ s) : fnd (l.take j) s = -1 :=
  fnd_none (fun i hi => by
    rw [List.getElem_take]
    have : i < j ∧ i < l.length := by simp at hi; omega
    exact h i this.2 this.1)
theorem find_take_some {l : List ByteArray} {s : ByteArray} {j k : Nat} (hk : k < l.length) (hkj : k < j) (he : l[k] = s) : fnd (l.take j) s ≠ -1 := fun h => by
  have := fnd_not h k (by simp; omega)
  rw [List.getElem_take] at this
  exact this he
theorem nmsN_take (ns : List Nd) (j : Nat) : nmsN (ns.take j) = (nmsN ns).take j := by simp [nmsN, List.map_take]
theorem nmsD_take (ds : List Dv) (j : Nat) : nmsD (ds.take j) = (nmsD ds).take j := by simp [nmsD, List.map_take]
set_option maxRecDepth 100000 in
set_option maxHeartbeats 8000000 in
theorem rcheck_is (a b : Option Addr) (N c M d : Nat) (ns : List Nd) (ds : List Dv) (r : Int) (w : World) (h : NetIn w a b N c M d ns ds) (hr : chk ns ds = r) :
    Calls Tryd.prog 35 #[.agg #[.slice a N c, .slice b M d]] w fun e w' => e = .returned (.int .i64 r) ∧ Below w.heap.size w w' := by
  have bx := Lib.hid (below_box w (.cells #[.slice a N c, .slice b M d] 26))
  have NT := Lib.hid (NtAt.new w (.slice a N c) (.slice b M d) 26)
  have HN := Lib.hid (fun wr (bel : Below w.heap.size w wr) => h.below bel)
  have n1 := h.ncap
  have n2 := h.nmax
  have n3 := h.dcap
  have n4 := h.dmax
  unfold maxLen at n2 n4
  have hn := Lib.hid h.nlen
  have hm := Lib.hid h.dlen
  have hsz := Lib.hid h.nsz
  have hft := Lib.hid h.dfit
  unfold chk at hr
  rw [h.nlen, h.dlen] at hr
  have HR := Lib.hid hr
  clear hr h
  by_cases hbig : 32 < N ∨ 64 < M
  · have e : r = 1 := by rw [← HR.out, if_pos hbig]
    subst e
    rcases hbig with h1 | h1
    · go_enter Tryd.func35, Tryd.ntmps35
      go_wp2
      all_goals (first | (exfalso; omega) | (go_ret; exact ⟨rfl, bx.out⟩))
    · go_enter Tryd.func35, Tryd.ntmps35
      go_wp2
      all_goals (first | (exfalso; omega) | (go_ret; exact ⟨rfl, bx.out⟩))
  · have h1 : N ≤ 32 := by omega
    have h2 : M ≤ 64 := by omega
    have HR2 : Hid ((if fe (ndsE ns) N = 0 then fe (dvsE ns ds) M else fe (ndsE ns) N) = r) := by show _ = r; rw [← HR.out, if_neg hbig]
    clear hbig HR
    go_enter Tryd.func35, Tryd.ntmps35
    go_wp2_with fail
    all_goals (try (exfalso; omega))
    go_loopw [3] (fun i wr => ∃ j : Nat, j ≤ N ∧ i = .int .i64 j ∧ Hid (Below (w.heap.size + 1) (w.alloc (.cells #[.slice a N c, .slice b M d] 26)) wr) ∧ Hid (∀ i, i < j → ndsE ns i = 0)) (fun i _ => N - (intOf i).toNat)
    case atStart => exact ⟨0, Nat.zero_le _, rfl, Below.refl _ _, fun i hi => by cases hi⟩
    case round => as_aux_lemma =>
      obtain ⟨j, hj, rfl, bel, hok⟩ := hrel
      obtain ⟨k1, k2, k3⟩ := NT.out.below bel.out (Nat.lt_succ_self _)
      have BL := Lib.hid (bx.out.trans (bel.out.mono (by omega)))
      by_cases hjn : j < N
      · have hjx : j < ns.length := by rw [hn.out]; exact hjn
        obtain ⟨g, o, hae, hg, hc⟩ := (HN.out _ BL.out).nin.some (by omega)
        subst hae
        obtain ⟨c0, c1, c2⟩ := cells_nd hc j hjx
        have hsx := hsz.out ns[j] (List.getElem_mem hjx)
        obtain ⟨x, hx⟩ : ∃ x, ns[j] = x := ⟨_, rfl⟩
        have hE := nms_take ns j hjx x hx
        rw [hx] at c0 c1 c2 hsx
        obtain ⟨nm, cu, co⟩ := x
        dsimp only at c0 c1 c2 hsx
        unfold ndE at hE
        dsimp only at hE
        rw [nmsN_take] at hE
        have HE := Lib.hid hE
        have CA : Hid (∀ k (hk : k < ns.length), (wr.alloc (.cells #[.string nm, .int .i64 cu, .int .i64 co] 67)).cell? ⟨g, o + k * 3, none⟩ = some (.string ns[k].nm)) := fun k hk => by
          rw [(below_box wr _).cell (p := ⟨g, o + k * 3, none⟩) hg]; exact (cells_nd hc k hk).1
        have b5 := below_box wr (.cells #[.string nm, .int .i64 cu, .int .i64 co] 67)
        have NT5 := Lib.hid ((NT.out.below bel.out (Nat.lt_succ_self _)).below b5 k3)
        have B5 := Lib.hid (bel.out.trans (b5.mono (by omega)))
        have BL5 := Lib.hid (BL.out.trans (b5.mono BL.out.size))
        have RET : Hid (∀ E, ndsE ns j = E → E ≠ 0 → r = E) := fun E he e0 => by
          have hf := fe_hit (f := ndsE ns) hjn hok.out (by rw [he]; exact e0)
          rw [← HR2.out, hf, he, if_neg e0]
        clear hx hE b5 bel BL
        have NM := Lib.hid (fun b hb W => rname_is nm b W hsx hb)
        clear hsx hc
        go_wp2_with fail
        by_cases hb : nameB nm.data.toList = true
        · have HBb := Lib.hid hb
          clear hb
          refine (NM.out _ HBb.out _).mono ?_; rintro e w' ⟨rfl, rfl⟩
          clear k1 k2 k3 c0 c1 c2
          go_wp2_with fail
          go_loopw [5] (fun p wv => ∃ (k q : Nat), k ≤ j ∧ p = .int .i64 k ∧ wv = (wr.alloc (.cells #[.string nm, .int .i64 cu, .int .i64 co] 67)).drewN q ∧ Hid (∀ i (hi : i < ns.length), i < k → ns[i].nm ≠ nm)) (fun p _ => j - (intOf p).toNat)
          case atStart => exact ⟨0, 0, Nat.zero_le _, rfl, rfl, fun i _ hi => by cases hi⟩
          case round => as_aux_lemma =>
            obtain ⟨k, q, hk, rfl, rfl, hno⟩ := hrel
            obtain ⟨k1, k2, -⟩ := NT5.out
            by_cases hkj : k < j
            · have hkx : k < ns.length := by omega
              have f0 := CA.out k hkx
              obtain ⟨y, hy⟩ : ∃ y, ns[k].nm = y := ⟨_, rfl⟩
              rw [hy] at f0
              have HY := Lib.hid hy
              by_cases e : y = nm
              · have T : (y.toList == nm.toList) = true := by rw [str_eq]; exact decide_eq_true e
                have hr' : r = 4 := RET.out 4 (by
                  rw [HE.out, if_pos HBb.out, if_neg]
                  exact find_take_some (by simp [nmsN]; omega) hkj (by rw [nms_get ns k hkx]; exact hy.trans e)) (by decide)
                subst hr'
                clear e hy HY hkx
                go_wp2
                go_quiet (fail)
                go_wp2
                go_ret
                exact ⟨rfl, below_drewN (below_drewN BL5.out _) _⟩
              · have T : (y.toList == nm.toList) = false := by rw [str_eq]; exact decide_eq_false e
                have hnext : Hid (∀ i (hi : i < ns.length), i < k + 1 → ns[i].nm ≠ nm) := fun i hi hij => by
                  by_cases e1 : i = k
                  · subst e1; rw [HY.out]; exact e
                  · exact hno.out i hi (by omega)
                clear e hy HY hkx hno
                go_wp2
                go_quiet (fail)
                go_wp2
                go_roundw
                case rel => exact ⟨k + 1, _, by omega, by go_num, rfl, hnext⟩
                case measure => simp [intOf]; omega
            · obtain rfl : j = k := by omega
              have HF : Hid (fnd ((nmsN ns).take j) nm = -1) := find_take_none (fun k hk hkj => by
                rw [nms_get ns k (by simpa [nmsN] using hk)]; exact hno.out k _ hkj)
              clear hno
              by_cases h3 : 0 ≤ cu
              · by_cases h4 : cu ≤ 1048576
                · by_cases h5 : 0 ≤ co
                  · by_cases h6 : co ≤ 7
                    · have hnext : Hid (∀ i, i < j + 1 → ndsE ns i = 0) := fun i hi => by
                        by_cases e1 : i = j
                        · subst e1; rw [HE.out, if_pos HBb.out, if_pos HF.out, if_pos ⟨h3, h4, h5, h6⟩]
                        · exact hok.out i (by omega)
                      go_wp2
                      all_goals (try (exfalso; omega))
                      go_roundw
                      case rel => exact ⟨j + 1, by omega, by go_num, below_drewN B5.out _, hnext⟩
                      case measure => simp [intOf]; omega
                    · have hr' : r = 5 := RET.out 5 (by rw [HE.out, if_pos HBb.out, if_pos HF.out, if_neg (fun h => by omega)]) (by decide)
                      subst hr'
                      go_wp2
                      all_goals (first | (exfalso; omega) | (go_ret; exact ⟨rfl, below_drewN BL5.out _⟩))
                  · have hr' : r = 5 := RET.out 5 (by rw [HE.out, if_pos HBb.out, if_pos HF.out, if_neg (fun h => by omega)]) (by decide)
                    subst hr'
                    go_wp2
                    all_goals (first | (exfalso; omega) | (go_ret; exact ⟨rfl, below_drewN BL5.out _⟩))
                · have hr' : r = 5 := RET.out 5 (by rw [HE.out, if_pos HBb.out, if_pos HF.out, if_neg (fun h => by omega)]) (by decide)
                  subst hr'
                  go_wp2
                  all_goals (first | (exfalso; omega) | (go_ret; exact ⟨rfl, below_drewN BL5.out _⟩))
              · have hr' : r = 5 := RET.out 5 (by rw [HE.out, if_pos HBb.out, if_pos HF.out, if_neg (fun h => by omega)]) (by decide)
                subst hr'
                go_wp2
                all_goals (first | (exfalso; omega) | (go_ret; exact ⟨rfl, below_drewN BL5.out _⟩))
        · have hr' : r = 3 := RET.out 3 (by rw [HE.out, if_neg hb]) (by decide)
          subst hr'
          have HBb := Lib.hid (Bool.eq_false_iff.2 hb)
          clear hb
          refine (NM.out _ HBb.out _).mono ?_; rintro e w' ⟨rfl, rfl⟩
          go_wp2
          go_ret
          exact ⟨rfl, BL5.out⟩
      · obtain rfl : N = j := by omega
        have hf := fe_ok hok.out
        have HR3 : Hid (fe (dvsE ns ds) M = r) := by show _ = r; rw [← HR2.out, if_pos hf]
        clear hf hok HR2
        go_wp2_with fail
        go_loopw [6] (fun i wr => ∃ j : Nat, j ≤ M ∧ i = .int .i64 j ∧ Hid (Below (w.heap.size + 1) (w.alloc (.cells #[.slice a N c, .slice b M d] 26)) wr) ∧ Hid (∀ i, i < j → dvsE ns ds i = 0)) (fun i _ => M - (intOf i).toNat)
        case atStart => exact ⟨0, Nat.zero_le _, rfl, bel, fun i hi => by cases hi⟩
        case round => as_aux_lemma =>
          clear k1 k2 k3 BL bel
          obtain ⟨j, hj, rfl, bel, hok⟩ := hrel
          obtain ⟨k1, k2, k3⟩ := NT.out.below bel.out (Nat.lt_succ_self _)
          have BL := Lib.hid (bx.out.trans (bel.out.mono (by omega)))
          by_cases hjn : j < M
          · have hjx : j < ds.length := by rw [hm.out]; exact hjn
            obtain ⟨g, o, hae, hg, hc⟩ := (HN.out _ BL.out).din.some (by omega)
            subst hae
            have hni := (HN.out _ BL.out).nin
            obtain ⟨c0, c1, c2, c3, c4⟩ := cells_dv hc j hjx
            have hsx := (hft.out ds[j] (List.getElem_mem hjx)).2.2.2.2
            obtain ⟨x, hx⟩ : ∃ x, ds[j] = x := ⟨_, rfl⟩
            have hE := dms_take ns ds j hjx x hx
            rw [hx] at c0 c1 c2 c3 c4 hsx
            obtain ⟨nm, ki, da, db, co⟩ := x
            dsimp only at c0 c1 c2 c3 c4 hsx
            unfold dvE at hE
            dsimp only at hE
            rw [nmsD_take, hn.out] at hE
            have HE := Lib.hid hE
            have b5 := below_box wr (.cells #[.string nm, .int .i64 ki, .int .i64 da, .int .i64 db, .int .i64 co] 57)
            have CA : Hid (∀ k (hk : k < ds.length), (wr.alloc (.cells #[.string nm, .int .i64 ki, .int .i64 da, .int .i64 db, .int .i64 co] 57)).cell? ⟨g, o + k * 5, none⟩ = some (.string ds[k].nm)) := fun k hk => by
              rw [b5.cell (p := ⟨g, o + k * 5, none⟩) hg]; exact (cells_dv hc k hk).1
            have CB : Hid (0 < N → ∃ g o, a = some ⟨g, o, none⟩ ∧ ∀ k (hk : k < ns.length), (wr.alloc (.cells #[.string nm, .int .i64 ki, .int .i64 da, .int .i64 db, .int .i64 co] 57)).cell? ⟨g, o + k * 3, none⟩ = some (.string ns[k].nm)) := fun h => by
              obtain ⟨g, o, hae, hg, hc⟩ := hni.some (by rw [hn.out]; exact h)
              exact ⟨g, o, hae, fun k hk => by rw [b5.cell (p := ⟨g, o + k * 3, none⟩) hg]; exact (cells_nd hc k hk).1⟩
            have NT5 := Lib.hid ((NT.out.below bel.out (Nat.lt_succ_self _)).below b5 k3)
            have DV5 : Hid (DvAt (wr.alloc (.cells #[.string nm, .int .i64 ki, .int .i64 da, .int .i64 db, .int .i64 co] 57)) wr.heap.size ⟨nm, ki, da, db, co⟩) := DvAt.new wr ⟨nm, ki, da, db, co⟩ _
            have B5 := Lib.hid (bel.out.trans (b5.mono (by omega)))
            have BL5 := Lib.hid (BL.out.trans (b5.mono BL.out.size))
            have RET : Hid (∀ E, dvsE ns ds j = E → E ≠ 0 → r = E) := fun E he e0 => by
              have hf := fe_hit (f := dvsE ns ds) hjn hok.out (by rw [he]; exact e0)
              rw [← HR3.out, hf, he]
            clear hx hE b5 bel BL hni
            have NM := Lib.hid (fun b hb W => rname_is nm b W hsx hb)
            clear hsx hc
            go_wp2_with fail
            by_cases hb : nameB nm.data.toList = true
            · have HBb := Lib.hid hb
              clear hb
              refine (NM.out _ HBb.out _).mono ?_; rintro e w' ⟨rfl, rfl⟩
              clear k1 k2 k3 c0 c1 c2 c3 c4
              go_wp2_with fail
              go_loopw [8] (fun p wv => ∃ (k q : Nat), k ≤ N ∧ p = .int .i64 k ∧ wv = (wr.alloc (.cells #[.string nm, .int .i64 ki, .int .i64 da, .int .i64 db, .int .i64 co] 57)).drewN q ∧ Hid (∀ i (hi : i < ns.length), i < k → ns[i].nm ≠ nm)) (fun p _ => N - (intOf p).toNat)
              case atStart => exact ⟨0, 0, Nat.zero_le _, rfl, rfl, fun i _ hi => by cases hi⟩
              case round => as_aux_lemma =>
                obtain ⟨k, q, hk, rfl, rfl, hno⟩ := hrel
                obtain ⟨k1, k2, -⟩ := NT5.out
                by_cases hkj : k < N
                · have hkx : k < ns.length := by rw [hn.out]; exact hkj
                  obtain ⟨gn, on, hae, CN⟩ := CB.out (by omega)
                  subst hae
                  have f0 := CN k hkx
                  obtain ⟨d0, -⟩ := DV5.out
                  obtain ⟨y, hy⟩ : ∃ y, ns[k].nm = y := ⟨_, rfl⟩
                  rw [hy] at f0
                  have HY := Lib.hid hy
                  have HX := Lib.hid hkx
                  clear CN
                  by_cases e : y = nm
                  · have T : (y.toList == nm.toList) = true := by rw [str_eq]; exact decide_eq_true e
                    have hr' : r = 4 := RET.out 4 (by
                      rw [HE.out, if_pos HBb.out, if_neg]
                      intro hh
                      exact fnd_not hh.1 k (by simpa [nmsN] using hkx) (by rw [nms_get ns k hkx]; exact hy.trans e)) (by decide)
                    subst hr'
                    clear e hy HY hkx HX
                    go_wp2
                    go_quiet (fail)
                    go_wp2
                    go_ret
                    exact ⟨rfl, below_drewN (below_drewN BL5.out _) _⟩
                  · have T : (y.toList == nm.toList) = false := by rw [str_eq]; exact decide_eq_false e
                    have hnext : Hid (∀ i (hi : i < ns.length), i < k + 1 → ns[i].nm ≠ nm) := fun i hi hij => by
                      by_cases e1 : i = k
                      · subst e1; rw [HY.out]; exact e
                      · exact hno.out i hi (by omega)
                    clear e hy HY hkx HX hno
                    go_wp2
                    go_quiet (fail)
                    go_wp2
                    go_roundw
                    case rel => exact ⟨k + 1, _, by omega, by go_num, rfl, hnext⟩
                    case measure => simp [intOf]; omega
                · have HF : Hid (fnd (nmsN ns) nm = -1) := fnd_none (fun i hi => by
                    have hi' : i < ns.length := by simpa [nmsN] using hi
                    rw [nms_get ns i hi']; exact hno.out i hi' (by rw [hn.out] at hi'; omega))
                  clear hno
                  go_wp2_with fail
                  go_loopw [9] (fun p wv => ∃ (k q : Nat), k ≤ j ∧ p = .int .i64 k ∧ wv = (wr.alloc (.cells #[.string nm, .int .i64 ki, .int .i64 da, .int .i64 db, .int .i64 co] 57)).drewN q ∧ Hid (∀ i (hi : i < ds.length), i < k → ds[i].nm ≠ nm)) (fun p _ => j - (intOf p).toNat)
                  case atStart => exact ⟨0, _, Nat.zero_le _, rfl, rfl, fun i _ hi => by cases hi⟩
                  case round => as_aux_lemma =>
                    clear k1 k2 hk
                    obtain ⟨k, q, hk, rfl, rfl, hno⟩ := hrel
                    obtain ⟨k1, k2, -⟩ := NT5.out
                    obtain ⟨d0, d1, d2, d3, d4, -⟩ := DV5.out
                    by_cases hkj : k < j
                    · have hkx : k < ds.length := by omega
                      have f0 := CA.out k hkx
                      obtain ⟨y, hy⟩ : ∃ y, ds[k].nm = y := ⟨_, rfl⟩
                      rw [hy] at f0
                      have HY := Lib.hid hy
                      by_cases e : y = nm
                      · have T : (y.toList == nm.toList) = true := by rw [str_eq]; exact decide_eq_true e
                        have hr' : r = 4 := RET.out 4 (by
                          rw [HE.out, if_pos HBb.out, if_neg]
                          intro hh
                          exact find_take_some (by simp [nmsD]; omega) hkj (by rw [dms_get ds k hkx]; exact hy.trans e) hh.2) (by decide)
                        subst hr'
                        clear e hy HY hkx
                        go_wp2
                        go_quiet (fail)
                        go_wp2
                        go_ret
                        exact ⟨rfl, below_drewN (below_drewN BL5.out _) _⟩
                      · have T : (y.toList == nm.toList) = false := by rw [str_eq]; exact decide_eq_false e
                        have hnext : Hid (∀ i (hi : i < ds.length), i < k + 1 → ds[i].nm ≠ nm) := fun i hi hij => by
                          by_cases e1 : i = k
                          · subst e1; rw [HY.out]; exact e
                          · exact hno.out i hi (by omega)
                        clear e hy HY hkx hno
                        go_wp2
                        go_quiet (fail)
                        go_wp2
                        go_roundw
                        case rel => exact ⟨k + 1, _, by omega, by go_num, rfl, hnext⟩
                        case measure => simp [intOf]; omega
                    · obtain rfl : j = k := by omega
                      have HF2 : Hid (fnd ((nmsD ds).take j) nm = -1) := find_take_none (fun k hk hkj => by
                        rw [dms_get ds k (by simpa [nmsD] using hk)]; exact hno.out k _ hkj)
                      clear hno d0
                      have J1 := Lib.hid (fun h W => rjoins_is ki true (decide_eq_true h) W)
                      have J0 := Lib.hid (fun h W => rjoins_is ki false (decide_eq_false h) W)
                      by_cases g1 : 1 ≤ ki
                      · by_cases g2 : ki ≤ 6
                        · by_cases g3 : 0 ≤ da
                          · by_cases g4 : da < N
                            · by_cases g5 : ki ≤ 3
                              · by_cases g6 : 0 ≤ db
                                · by_cases g7 : db < N
                                  · by_cases g8 : db = da
                                    · have I : ¬ itsB N ⟨nm, ki, da, db, co⟩ = true := fun h => by have := itsB_parts h; dsimp only at this; omega
                                      have hr' : r = 7 := RET.out 7 (by rw [HE.out, if_pos HBb.out, if_pos ⟨HF.out, HF2.out⟩, if_pos ⟨g1, g2⟩, if_neg I]) (by decide)
                                      subst hr'
                                      clear I
                                      subst g8
                                      go_wp2_with fail
                                      all_goals (try (exfalso; omega))
                                      refine (J1.out ⟨g1, g5⟩ _).mono ?_; rintro e w' ⟨rfl, rfl⟩
                                      go_wp2
                                      all_goals (first | (exfalso; omega) | (go_ret; exact ⟨rfl, below_drewN BL5.out _⟩))
                                    · have I : itsB N ⟨nm, ki, da, db, co⟩ = true := decide_eq_true ⟨⟨g3, g4⟩, .inl ⟨⟨g1, g5⟩, g6, g7, g8⟩⟩
                                      have TB : (db == da) = false := beq_eq_false_iff_ne.2 g8
                                      by_cases g9 : 0 ≤ co ∧ co ≤ 7
                                      · have hnext : Hid (∀ i, i < j + 1 → dvsE ns ds i = 0) := fun i hi => by
                                          by_cases e1 : i = j
                                          · subst e1; rw [HE.out, if_pos HBb.out, if_pos ⟨HF.out, HF2.out⟩, if_pos ⟨g1, g2⟩, if_pos I, if_pos g9]
                                          · exact hok.out i (by omega)
                                        clear I
                                        go_wp2_with fail
                                        all_goals (try (exfalso; omega))
                                        refine (J1.out ⟨g1, g5⟩ _).mono ?_; rintro e w' ⟨rfl, rfl⟩
                                        go_wp2_with fail
                                        all_goals (try (exfalso; omega))
                                        refine (J1.out ⟨g1, g5⟩ _).mono ?_; rintro e w' ⟨rfl, rfl⟩
                                        go_wp2
                                        all_goals (try (exfalso; omega))
                                        go_roundw
                                        case rel => exact ⟨j + 1, by omega, by go_num, below_drewN B5.out _, hnext⟩
                                        case measure => simp [intOf]; omega
                                      · have hr' : r = 5 := RET.out 5 (by rw [HE.out, if_pos HBb.out, if_pos ⟨HF.out, HF2.out⟩, if_pos ⟨g1, g2⟩, if_pos I, if_neg g9]) (by decide)
                                        subst hr'
                                        clear I
                                        go_wp2_with fail
                                        all_goals (try (exfalso; omega))
                                        refine (J1.out ⟨g1, g5⟩ _).mono ?_; rintro e w' ⟨rfl, rfl⟩
                                        go_wp2_with fail
                                        all_goals (try (exfalso; omega))
                                        refine (J1.out ⟨g1, g5⟩ _).mono ?_; rintro e w' ⟨rfl, rfl⟩
                                        go_wp2
                                        all_goals (first | (exfalso; omega) | (go_ret; exact ⟨rfl, below_drewN BL5.out _⟩))
                                  · have I : ¬ itsB N ⟨nm, ki, da, db, co⟩ = true := fun h => by have := itsB_parts h; dsimp only at this; omega
                                    have hr' : r = 7 := RET.out 7 (by rw [HE.out, if_pos HBb.out, if_pos ⟨HF.out, HF2.out⟩, if_pos ⟨g1, g2⟩, if_neg I]) (by decide)
                                    subst hr'
                                    clear I
                                    go_wp2_with fail
                                    all_goals (try (exfalso; omega))
                                    refine (J1.out ⟨g1, g5⟩ _).mono ?_; rintro e w' ⟨rfl, rfl⟩
                                    go_wp2
                                    all_goals (first | (exfalso; omega) | (go_ret; exact ⟨rfl, below_drewN BL5.out _⟩))
                                · have I : ¬ itsB N ⟨nm, ki, da, db, co⟩ = true := fun h => by have := itsB_parts h; dsimp only at this; omega
                                  have hr' : r = 7 := RET.out 7 (by rw [HE.out, if_pos HBb.out, if_pos ⟨HF.out, HF2.out⟩, if_pos ⟨g1, g2⟩, if_neg I]) (by decide)
                                  subst hr'
                                  clear I
                                  go_wp2_with fail
                                  all_goals (try (exfalso; omega))
                                  refine (J1.out ⟨g1, g5⟩ _).mono ?_; rintro e w' ⟨rfl, rfl⟩
                                  go_wp2
                                  all_goals (first | (exfalso; omega) | (go_ret; exact ⟨rfl, below_drewN BL5.out _⟩))
                              · by_cases g6 : db = -1
                                · have I : itsB N ⟨nm, ki, da, db, co⟩ = true := decide_eq_true ⟨⟨g3, g4⟩, .inr ⟨fun h => g5 h.2, g6⟩⟩
                                  subst g6
                                  by_cases g9 : 0 ≤ co ∧ co ≤ 7
                                  · have hnext : Hid (∀ i, i < j + 1 → dvsE ns ds i = 0) := fun i hi => by
                                      by_cases e1 : i = j
                                      · subst e1; rw [HE.out, if_pos HBb.out, if_pos ⟨HF.out, HF2.out⟩, if_pos ⟨g1, g2⟩, if_pos I, if_pos g9]
                                      · exact hok.out i (by omega)
                                    clear I
                                    go_wp2_with fail
                                    all_goals (try (exfalso; omega))
                                    refine (J0.out (by omega) _).mono ?_; rintro e w' ⟨rfl, rfl⟩
                                    go_wp2_with fail
                                    all_goals (try (exfalso; omega))
                                    refine (J0.out (by omega) _).mono ?_; rintro e w' ⟨rfl, rfl⟩
                                    go_wp2
                                    all_goals (try (exfalso; omega))
                                    go_roundw
                                    case rel => exact ⟨j + 1, by omega, by go_num, below_drewN B5.out _, hnext⟩
                                    case measure => simp [intOf]; omega
                                  · have hr' : r = 5 := RET.out 5 (by rw [HE.out, if_pos HBb.out, if_pos ⟨HF.out, HF2.out⟩, if_pos ⟨g1, g2⟩, if_pos I, if_neg g9]) (by decide)
                                    subst hr'
                                    clear I
                                    go_wp2_with fail
                                    all_goals (try (exfalso; omega))
                                    refine (J0.out (by omega) _).mono ?_; rintro e w' ⟨rfl, rfl⟩
                                    go_wp2_with fail
                                    all_goals (try (exfalso; omega))
                                    refine (J0.out (by omega) _).mono ?_; rintro e w' ⟨rfl, rfl⟩
                                    go_wp2
                                    all_goals (first | (exfalso; omega) | (go_ret; exact ⟨rfl, below_drewN BL5.out _⟩))
                                · have TB := bne_t g6
                                  have I : ¬ itsB N ⟨nm, ki, da, db, co⟩ = true := fun h => by have := itsB_parts h; dsimp only at this; omega
                                  have hr' : r = 7 := RET.out 7 (by rw [HE.out, if_pos HBb.out, if_pos ⟨HF.out, HF2.out⟩, if_pos ⟨g1, g2⟩, if_neg I]) (by decide)
                                  subst hr'
                                  clear I
                                  go_wp2_with fail
                                  all_goals (try (exfalso; omega))
                                  refine (J0.out (by omega) _).mono ?_; rintro e w' ⟨rfl, rfl⟩
                                  go_wp2_with fail
                                  refine (J0.out (by omega) _).mono ?_; rintro e w' ⟨rfl, rfl⟩
                                  go_wp2
                                  all_goals (first | (exfalso; omega) | (go_ret; exact ⟨rfl, below_drewN BL5.out _⟩))
                            · have I : ¬ itsB N ⟨nm, ki, da, db, co⟩ = true := fun h => by have := itsB_parts h; dsimp only at this; omega
                              have hr' : r = 7 := RET.out 7 (by rw [HE.out, if_pos HBb.out, if_pos ⟨HF.out, HF2.out⟩, if_pos ⟨g1, g2⟩, if_neg I]) (by decide)
                              subst hr'
                              clear I
                              go_wp2
                              all_goals (first | (exfalso; omega) | (go_ret; exact ⟨rfl, below_drewN BL5.out _⟩))
                          · have I : ¬ itsB N ⟨nm, ki, da, db, co⟩ = true := fun h => by have := itsB_parts h; dsimp only at this; omega
                            have hr' : r = 7 := RET.out 7 (by rw [HE.out, if_pos HBb.out, if_pos ⟨HF.out, HF2.out⟩, if_pos ⟨g1, g2⟩, if_neg I]) (by decide)
                            subst hr'
                            clear I
                            go_wp2
                            all_goals (first | (exfalso; omega) | (go_ret; exact ⟨rfl, below_drewN BL5.out _⟩))
                        · have hr' : r = 6 := RET.out 6 (by rw [HE.out, if_pos HBb.out, if_pos ⟨HF.out, HF2.out⟩, if_neg (fun h => by omega)]) (by decide)
                          subst hr'
                          go_wp2
                          all_goals (first | (exfalso; omega) | (go_ret; exact ⟨rfl, below_drewN BL5.out _⟩))
                      · have hr' : r = 6 := RET.out 6 (by rw [HE.out, if_pos HBb.out, if_pos ⟨HF.out, HF2.out⟩, if_neg (fun h => by omega)]) (by decide)
                        subst hr'
                        go_wp2
                        all_goals (first | (exfalso; omega) | (go_ret; exact ⟨rfl, below_drewN BL5.out _⟩))
            · have hr' : r = 3 := RET.out 3 (by rw [HE.out, if_neg hb]) (by decide)
              subst hr'
              have HBb := Lib.hid (Bool.eq_false_iff.2 hb)
              clear hb
              refine (NM.out _ HBb.out _).mono ?_; rintro e w' ⟨rfl, rfl⟩
              go_wp2
              go_ret
              exact ⟨rfl, BL5.out⟩
          · obtain rfl : M = j := by omega
            have e : r = 0 := by rw [← HR3.out]; exact fe_ok hok.out
            subst e
            go_wp2
            go_ret
            exact ⟨rfl, BL.out⟩
end Go.Proofs.YtoeojhabhnoojaaDoor.net
