/- The walks of layer 3: the first way, Way, At. Condition: the table 'classes' holds what its text lays. -/
import Derived.Test.YtleggojgcaefdaaDoorNetF
import Derived.OwnWalk
import Derived.Maps.AppendAt
namespace Go.Proofs.YtleggojgcaefdaaDoor.net
open Go.RowKit lex aggs kit deck

def encN (n : Nat) : List Value := [.int .i64 (n : Int)]
theorem encN_len (n : Nat) : (encN n).length = 1 := rfl
theorem encN_one (n : Nat) : ∀ v ∈ encN n, v.oneCell' = true := by intro v hv; simp [encN] at hv; subst hv; rfl
theorem infoInt : (Tryd.prog.info? 3).map (fun i => (i.zero, i.size, i.bytes)) = some (some (.int .i64 0), 1, 8) := by kernel_rfl
/-- a slice of numbers of the call's own -/
def NumsAt (w : World) (base : Nat) (v : Value) (xs : List Nat) : Prop := AggsAt 3 1 encN w base v xs
theorem NumsAt.drewN {w : World} {base : Nat} {v : Value} {xs : List Nat} (h : NumsAt w base v xs) (n : Nat) : NumsAt (w.drewN n) base v xs := h
theorem cell_new1 (w : World) (g : Nat) (hg : g = w.heap.size) (T : Nat) (n : Nat) : ∀ j u, (encN n)[j]? = some u → (w.alloc (.cells #[.int .i64 (n : Int)] T)).cell? ((⟨g, 0, none⟩ : Addr).add j) = some u := by
  subst hg; exact cell_one (enc := encN) (k := 1) w _ T n rfl
theorem near_no {ds : List Dv} {us : List Bool} {D : Nat → Int} {v i : Nat} (h : nb ds us i v = -1) : nearB (nb ds us) D v i = false := by
  rw [Bool.eq_false_iff, Ne, nearB_iff, h]; omega
theorem near_is {ds : List Dv} {us : List Bool} {D : Nat → Int} {v i u : Nat} (h : nb ds us i v = u) (b : Bool) (hb : decide (D u = D v - 1) = b) : nearB (nb ds us) D v i = b := by
  unfold nearB
  rw [h, Int.toNat_natCast, decide_eq_true (by omega), Bool.true_and]; exact hb
/-- what firstWay leaves -/
def WayLPost (ds : List Dv) (us : List Bool) (D : Nat → Int) (n from_ : Nat) (w : World) (e : Ending) (w' : World) : Prop :=
  ∃ v, e = .returned v ∧ NumsAt w' w.heap.size v (wayL (nb ds us) ds.length D n from_) ∧ Below w.heap.size w w'
set_option maxRecDepth 100000 in
set_option maxHeartbeats 4000000 in
theorem firstWay_is (a b u : Option Addr) (N c M d cu to from_ n : Nat) (A : Array Value) (D : Nat → Int) (ns : List Nd) (ds : List Dv) (us : List Bool) (w : World) (h : NetIn w a b N c M d ns ds) (hc : chk ns ds = 0) (hu : RIn encB 1 w u us) (hul : us.length = M)
    (hA : IsArr A D) (hD : IsDist (nb ds us) ds.length N to D) (hf : from_ < N) (hn : D from_ = n) :
    Calls Tryd.prog 48 #[.agg #[.slice a N c, .slice b M d], .slice u M cu, .agg A, .int .i64 from_] w (WayLPost ds us D n from_ w) := by
  have hs := chk_small hc
  rw [h.nlen, h.dlen] at hs
  obtain ⟨hN, hM⟩ := hs
  obtain ⟨i0, hi, hz0, hz1, hz2⟩ := info_parts infoInt
  have HS := Lib.hid (nb_sym (us := us) (N := N) (fun i hi => by have := chk_its hc i hi; rwa [h.nlen] at this))
  have HN := Lib.hid (fun wr (bel : Below w.heap.size w wr) => h.below bel)
  have HU := Lib.hid (fun wr (bel : Below w.heap.size w wr) => hu.below bel)
  have HD := Lib.hid hD
  have hn31 : n < 32 := by have := hD.lt from_ hf; omega
  have hdl := Lib.hid h.dlen
  have hul := Lib.hid hul
  have n3 := h.dcap
  have n4 := h.dmax
  unfold maxLen at n4
  have S2 : Hid (NtAt ((w.alloc (.cells #[.slice a N c, .slice b M d] 26)).alloc (.cells A 72)) w.heap.size (.slice a N c) (.slice b M d) ∧
      ArrAt ((w.alloc (.cells #[.slice a N c, .slice b M d] 26)).alloc (.cells A 72)) (w.heap.size + 1) D ∧
      Below w.heap.size w ((w.alloc (.cells #[.slice a N c, .slice b M d] 26)).alloc (.cells A 72)) ∧ ((w.alloc (.cells #[.slice a N c, .slice b M d] 26)).alloc (.cells A 72)).heap.size = w.heap.size + 1 + 1) := by
    refine ⟨(NtAt.new w _ _ _).alloc _, ?_, (below_box _ _).trans ((below_box _ _).mono (by simp)), by simp⟩
    have := ArrAt.new (w := w.alloc (.cells #[.slice a N c, .slice b M d] 26)) (T := 72) hA
    simpa only [World.size_alloc] using this
  have hnn := Lib.hid hn
  clear h hc hu hA hD hn
  go_enter Tryd.func48, Tryd.ntmps48
  go_wp2_with fail
  obtain ⟨w2, hw2⟩ : ∃ w2, (w.alloc (.cells #[.slice a N c, .slice b M d] 26)).alloc (.cells A 72) = w2 := ⟨_, rfl⟩
  rw [hw2] at S2 ⊢
  obtain ⟨y, hy⟩ : ∃ y, w.heap.size + 1 = y := ⟨_, rfl⟩
  obtain ⟨x, hx⟩ : ∃ x, w.heap.size = x := ⟨_, rfl⟩
  rw [hy] at S2 ⊢
  rw [hx] at S2 ⊢
  have XY : x < y ∧ w.heap.size = x := by omega
  clear hw2 hy hx
  rw [XY.2] at HN HU
  have NW := Lib.hid (fun wr (bel : Below (y + 1) w2 wr) => HN.out wr (S2.out.2.2.1.trans (bel.mono (by omega))))
  have UW := Lib.hid (fun wr (bel : Below (y + 1) w2 wr) => HU.out wr (S2.out.2.2.1.trans (bel.mono (by omega))))
  clear HN HU
  go_loopw [3, 9] (fun p q wr => ∃ (k v : Nat) (acc : List Nat), v < N ∧ k + acc.length = n ∧ p = .int .i64 v ∧ Hid (D v = k) ∧ Hid (acc ++ wayL (nb ds us) ds.length D k v = wayL (nb ds us) ds.length D n from_) ∧ Hid (NumsAt wr (y + 1) q acc) ∧ Hid (Below (y + 1) w2 wr)) (fun p _ _ => (D (intOf p).toNat).toNat)
  case atStart => exact ⟨n, from_, [], hf, by simp, rfl, hnn, rfl, AggsAt.nil _ _ _ _ _, Below.refl _ _⟩
  case round => as_aux_lemma =>
    obtain ⟨k, v, acc, hvN, hka, rfl, hDv, hW, nums, bel⟩ := hrel
    obtain ⟨q1, -⟩ := (S2.out.2.1.below bel.out (by omega)).get (t := v) (by omega)
    rw [hDv.out] at q1
    by_cases hk : 0 < k
    · obtain ⟨k1, k2, -⟩ := S2.out.1.below bel.out (by omega)
      have NX := Lib.hid (HD.out.next HS.out v hvN (by rw [hDv.out]; omega))
      obtain ⟨t, ht⟩ : ∃ t, nxt (nb ds us) ds.length D v = t := ⟨_, rfl⟩
      have htM : t < M := by have := NX.out.1; rw [ht, hdl.out] at this; exact this
      have HT := Lib.hid ht
      have ST := Lib.hid (World.ownsRow.lt nums.out)
      clear ht
      go_wp2_with fail
      go_loopw [3, 9, 20] (fun p q i wr => ∃ j : Nat, j ≤ t ∧ p = .int .i64 v ∧ i = .int .i64 j ∧ Hid (NumsAt wr (y + 1) q acc) ∧ Hid (Below (y + 1) w2 wr)) (fun _ _ i _ => M - (intOf i).toNat)
      case atStart => exact ⟨0, Nat.zero_le _, rfl, rfl, nums, bel⟩
      case round => as_aux_lemma =>
        clear nums bel q1 k1 k2 ST
        obtain ⟨j, hjt, rfl, rfl, nums, bel⟩ := hrel
        have hj : j < M := by omega
        have hjd : j < ds.length := by rw [hdl.out]; exact hj
        have hju : j < us.length := by rw [hul.out]; exact hj
        obtain ⟨g, o, hbe, hg, hcd⟩ := (NW.out _ bel.out).din.some (by omega)
        obtain ⟨g2, o2, hue, hg2, hcu⟩ := (UW.out _ bel.out).some (by omega)
        subst hbe
        subst hue
        obtain ⟨c0, c1, c2, c3, c4⟩ := cells_dv hcd j hjd
        have u0 := cells_b hcu j hju
        obtain ⟨xd, hxd⟩ : ∃ x, ds[j] = x := ⟨_, rfl⟩
        obtain ⟨bu, hbu⟩ : ∃ x, us[j] = x := ⟨_, rfl⟩
        rw [hxd] at c0 c1 c2 c3 c4
        rw [hbu] at u0
        obtain ⟨na, hna⟩ : ∃ r, acr xd v = r := ⟨_, rfl⟩
        have AC := Lib.hid (fun w => across_is xd v na w hna)
        have G := Lib.hid (show nb ds us j v = if bu = true then na else -1 by
          unfold nb; rw [getD_of hjd, hxd, hna, List.getD_eq_getElem?_getD, List.getElem?_eq_getElem hju, hbu]; rfl)
        have SY := Lib.hid (HS.out j hjd v hvN)
        clear hxd hbu hna hcd hcu hjd hju
        obtain ⟨nm, ki, da, db, co⟩ := xd
        dsimp only at c0 c1 c2 c3 c4 AC
        unfold dvV at AC
        have nums2 : Hid (NumsAt ((wr.alloc (.cells #[.string nm, .int .i64 ki, .int .i64 da, .int .i64 db, .int .i64 co] 54)).alloc (.cells #[.string nm, .int .i64 ki, .int .i64 da, .int .i64 db, .int .i64 co] 54)) (y + 1) u9 acc) := (AggsAt.alloc nums.out _).alloc _
        have bb : Below wr.heap.size wr ((wr.alloc (.cells #[.string nm, .int .i64 ki, .int .i64 da, .int .i64 db, .int .i64 co] 54)).alloc (.cells #[.string nm, .int .i64 ki, .int .i64 da, .int .i64 db, .int .i64 co] 54)) := (below_box _ _).trans ((below_box _ _).mono (by simp))
        have bel2 := Lib.hid (bel.out.trans (bb.mono (by have := bel.out.size; rw [S2.out.2.2.2] at this; exact this)))
        rw [← bb.cell (p := ⟨g2, o2 + j, none⟩) hg2] at u0
        have AR := Lib.hid (S2.out.2.1.below bel2.out (by omega))
        obtain ⟨q1, -⟩ := AR.out.get (t := v) (by omega)
        rw [hDv.out] at q1
        clear bb bel nums
        go_wp2_with fail
        refine (AC.out _).mono ?_; rintro e w' ⟨rfl, rfl⟩
        clear c0 c1 c2 c3 c4
        have NO : Hid (nearB (nb ds us) D v j = false → j < t) := fun h => by
          by_cases e : j = t
          · have := NX.out.2.2.2; rw [HT.out, ← e, h] at this; exact absurd this Bool.false_ne_true
          · omega
        cases bu
        · have hjt2 := NO.out (near_no (by rw [G.out]; rfl))
          go_wp2
          go_quiet (fail)
          go_wp2
          go_roundw
          case rel => exact ⟨j + 1, by omega, rfl, by go_num, nums2, below_drewN bel2.out _⟩
          case measure => simp [intOf]; omega
        · by_cases e1 : na = -1
          · subst e1
            have hjt2 := NO.out (near_no (by rw [G.out]; rfl))
            go_wp2
            go_quiet (fail)
            go_wp2
            go_roundw
            case rel => exact ⟨j + 1, by omega, rfl, by go_num, nums2, below_drewN bel2.out _⟩
            case measure => simp [intOf]; omega
          · obtain ⟨x, hx, rfl⟩ : ∃ x : Nat, x < N ∧ na = x := by
              rcases SY.out with e | ⟨u, h1, h2, _⟩
              · rw [G.out, if_pos rfl] at e; exact absurd e e1
              · rw [G.out, if_pos rfl] at h2; exact ⟨u, h1, h2⟩
            clear e1 SY
            have T1 : ((x : Int) != -1) = true := by rw [bne_iff_ne]; omega
            obtain ⟨f1, -⟩ := AR.out.get (t := x) (by omega)
            obtain ⟨Du, hDu⟩ : ∃ z, D x = z := ⟨_, rfl⟩
            have hDl := HD.out.low x hx
            have hDh := HD.out.lt x hx
            rw [hDu] at f1 hDl hDh
            have HDu := Lib.hid hDu
            clear hDu
            by_cases e2 : Du = (k : Int) - 1
            · have T2 : (Du == (k : Int) - 1) = true := by rw [e2]; exact beq_self_eq_true _
              have hnear := near_is (D := D) (by rw [G.out]; rfl) true (decide_eq_true (by rw [HDu.out, hDv.out]; exact e2))
              have ejt : t = j := by
                by_cases e : j = t
                · exact e.symm
                · have := NX.out.2.2.1 j (by rw [HT.out]; omega); rw [hnear] at this; exact absurd this (by decide)
              subst ejt
              have WN : Hid ((acc ++ [t]) ++ wayL (nb ds us) ds.length D (k - 1) x = wayL (nb ds us) ds.length D n from_) := by
                have h := hW.out
                rw [show k = (k - 1) + 1 from by omega, wayL, HT.out, G.out, if_pos rfl, Int.toNat_natCast] at h
                show _ = _
                rw [List.append_assoc]; exact h
              have DX : Hid (D x = ((k - 1 : Nat) : Int)) := by show _ = _; rw [HDu.out]; omega
              clear e2 hnear
              go_wp2
              go_quiet (fail)
              have nums3 : Hid (NumsAt ((((wr.alloc (.cells #[.string nm, .int .i64 ki, .int .i64 da, .int .i64 db, .int .i64 co] 54)).alloc (.cells #[.string nm, .int .i64 ki, .int .i64 da, .int .i64 db, .int .i64 co] 54)).drewN nq).alloc (.cells #[.int .i64 (t : Int)] 3)) (y + 1) u9 acc) := AggsAt.alloc (nums2.out.drewN nq) _
              have bel3 := Lib.hid ((below_drewN bel2.out nq).trans ((below_box _ (.cells #[.int .i64 (t : Int)] 3)).mono (by have := bel2.out.size; rw [S2.out.2.2.2] at this; exact this)))
              go_wp2_with (at_builtin; go_must (refine wpList_append_own _ rfl (.tmp 46) (.tmp 48) 22 rfl (y + 1) 3 i0 _ 1 8 Tryd.underlying22 hi hz0 hz1 hz2 rfl (by decide) u9 acc.length (flat encN acc) rfl nums3.out _ 1 1 (encN t) rfl rfl ?qc1 ?qc2 ?qc3 ?qc4 ?qc5 ?_))
              case qc1 => exact cell_new1 _ _ (by simp) _ t
              case qc2 => exact encN_one t
              case qc3 => unfold maxLen; omega
              case qc4 => omega
              case qc5 => have := bel3.out.size; rw [S2.out.2.2.2] at this; exact this
              intro v' w5 hown' hgrow hnil'
              have NU := Lib.hid (show NumsAt w5 (y + 1) v' (acc ++ [t]) from AggsAt.push hown')
              have B5 := Lib.hid (bel3.out.grown hgrow (by have := bel3.out.size; rw [S2.out.2.2.2] at this; exact this) (fun q hq => by have := (World.ownsRow.lt nums3.out q hq).1; exact this))
              clear hown' hgrow hnil' nums3 bel3
              go_wp2
              go_roundw
              case rel => exact ⟨k - 1, x, acc ++ [t], hx, by simp; omega, rfl, DX, WN, NU, B5⟩
              case measure =>
                show (D ((x : Int)).toNat).toNat < (D ((v : Int)).toNat).toNat
                rw [Int.toNat_natCast, Int.toNat_natCast, DX.out, hDv.out]; omega
            · have T2 : (Du == (k : Int) - 1) = false := beq_eq_false_iff_ne.2 e2
              have hjt2 := NO.out (near_is (by rw [G.out]; rfl) false (decide_eq_false (by rw [HDu.out, hDv.out]; exact e2)))
              clear e2
              go_wp2
              go_quiet (fail)
              go_wp2
              go_roundw
              case rel => exact ⟨j + 1, by omega, rfl, by go_num, nums2, below_drewN bel2.out _⟩
              case measure => simp [intOf]; omega
    · obtain rfl : k = 0 := by omega
      have e : acc = wayL (nb ds us) ds.length D n from_ := by have := hW.out; rw [wayL, List.append_nil] at this; exact this
      go_wp2
      go_ret
      refine ⟨_, rfl, ?_, ?_⟩
      · rw [← e, XY.2]; exact AggsAt.mono nums.out (by omega)
      · rw [XY.2]; exact S2.out.2.2.1.trans (bel.out.mono (by omega))
end Go.Proofs.YtleggojgcaefdaaDoor.net
