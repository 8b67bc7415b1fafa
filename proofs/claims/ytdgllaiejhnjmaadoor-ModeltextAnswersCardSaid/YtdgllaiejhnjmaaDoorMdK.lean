/- The walk of Parse. Condition: the table 'classes' holds what its text lays. -/
import Derived.Test.YtdgllaiejhnjmaaDoorMdJ
import Derived.Test.YtdgllaiejhnjmaaDoorMwL
namespace Go.Proofs.YtdgllaiejhnjmaaDoor.mod
open Go.RowKit lex net aggs kit strs deck

/-- the network that was read lies beyond the block of the result -/
theorem NetIn.far {W W3 : World} {x b : Nat} {vn vd : Value} {ns : List Nd} {ds : List Dv} {va vb : Option Addr} {N vc M ve : Nat} (h : NetIn W3 va vb N vc M ve ns ds) (p : PB W x vn vd ns ds) (b3 : Below W.heap.size W W3) (hb : b < x) : vn = .slice va N vc → vd = .slice vb M ve → ∀ u v, NetIn ((W3.setCell ⟨b, 0, none⟩ u).setCell ⟨b, 1, none⟩ v) va vb N vc M ve ns ds := by
  intro e1 e2 u v
  have p3 := p.below b3
  have gs : W3.grownBy ((W3.setCell ⟨b, 0, none⟩ u).setCell ⟨b, 1, none⟩ v) (some b) := gb_set v (gb_set u (gb_refl W3 _))
  have r1 := p3.rn.grown gs (fun k hk => by cases hk; omega)
  have r2 := p3.rd.grown gs (fun k hk => by cases hk; omega)
  obtain ⟨a', c', q1, s1⟩ := AggsAt.rin r1 encNd_len
  obtain ⟨b', d', q2, s2⟩ := AggsAt.rin r2 encDv_len
  rw [e1] at q1; injection q1 with q1 _ _
  rw [e2] at q2; injection q2 with q2 _ _
  subst q1 q2
  exact { h with nin := s1, din := s2 }
set_option maxRecDepth 100000 in
set_option maxHeartbeats 2000000 in
theorem parse_is (s : ByteArray) (w : World) (H : HasClasses w) (hs : s.size ≤ 1099511627776) :
    Calls Tryd.prog 18 #[.string s] w (ParsePost s.data.toList w) := by
  obtain ⟨r, hr⟩ : ∃ r, lines s.data.toList = r := ⟨_, rfl⟩
  have BX := Lib.hid (below_box w (.cells #[.slice none 0 0, .slice none 0 0] 26))
  have HB : Hid ((w.alloc (.cells #[.slice none 0 0, .slice none 0 0] 26)).heap[w.heap.size]? = some (.cells #[.slice none 0 0, .slice none 0 0] 26 (0, 0))) := heap_alloc_new _ _
  have HH := Lib.hid (fun W (b : Below w.heap.size w W) => H.below b)
  have LN := Lib.hid (lines_eq s s.data.toList (bs_of s).symm r hr _ (HH.out _ BX.out) (by simpa using hs))
  have HR := Lib.hid hr
  clear hr H
  go_enter Tryd.func18, Tryd.ntmps18
  go_wp2_with fail
  refine LN.out.mono ?_; rintro e w1 ⟨v, rfl, hv, b1⟩
  have B1 : Hid (Below (w.heap.size + 1) (w.alloc (.cells #[.slice none 0 0, .slice none 0 0] 26)) w1) := by show Below _ _ _; simpa using b1
  have BW := Lib.hid (BX.out.trans (B1.out.mono (Nat.le_succ _)))
  have hb1 : w1.heap[w.heap.size]? = some (.cells #[.slice none 0 0, .slice none 0 0] 26 (0, 0)) := (B1.out.block _ (Nat.lt_succ_self _)).trans HB.out
  have hv' : StrsAt w1 (w.heap.size + 1) v (r.getD []) := by simpa using hv
  have HV := Lib.hid hv'
  clear b1 hv hv' HB
  cases r with
  | none =>
    have PN := Lib.hid (parse_none HR.out)
    obtain ⟨k0, k1, k2, k3⟩ := arr2 hb1
    have TS := Lib.hid (two_set (.slice none 0 0) (.slice none 0 0) hb1 rfl)
    have BE := Lib.hid ((BW.out.setCell (p := ⟨w.heap.size, 0, none⟩) (Nat.le_refl _) (.slice none 0 0)).setCell (p := ⟨w.heap.size, 1, none⟩) (Nat.le_refl _) (.slice none 0 0))
    clear hb1
    go_wp2
    refine bodyPost_ret (v := .tuple #[.agg #[.slice none 0 0, .slice none 0 0], .int .i64 0, .int .i64 2]) (by simp [results, Tryd.results18, go_sem, TS.out.1, TS.out.2]) rfl ?_
    unfold ParsePost
    rw [PN.out]
    exact ⟨none, 0, 0, none, 0, 0, rfl, net_none _, BE.out⟩
  | some L =>
    obtain ⟨a, cl, rfl, hLm⟩ := HV.out.length
    rw [Option.getD_some] at hLm
    have HV2 : Hid (StrsAt w1 (w.heap.size + 1) (.slice a L.length cl) L) := HV.out
    obtain ⟨hws, hsz⟩ := lines_wsum HR.out
    have hL := length_le_wsum L
    have HZ : Hid (∀ l ∈ L, l.length ≤ 65536) := fun l hl => by have := mem_wsum_le hl; omega
    have hL2 : L.length ≤ 65536 := by omega
    clear hws hsz hL hLm HV
    obtain ⟨n, hn⟩ : ∃ n, L.length = n := ⟨_, rfl⟩
    have HN := Lib.hid hn
    have ROW : Hid (∀ (j : Nat) (hj : j < L.length), ∃ g, a = some ⟨g, 0, none⟩ ∧ g < w1.heap.size ∧ w1.cell? ⟨g, j, none⟩ = some (.string (bs L[j]))) := fun j hj => by
      rcases HV2.out.shape with ⟨_, e⟩ | ⟨g, c, e, _, hg, _, _, hc⟩
      · rw [e] at hj; cases hj
      · injection e with e1 e2 e3
        exact ⟨g, e1, hg, hc j hj⟩
    have HX0 : Hid (PB (w1.alloc (.cells #[.slice none 0 0, .slice none 0 0] 26)) w1.heap.size (.slice none 0 0) (.slice none 0 0) [] []) := ⟨⟨_, heap_alloc_new _ _⟩, AggsAt.nil _ _ _ _ _, AggsAt.nil _ _ _ _ _⟩
    have HXB : Hid (Below w1.heap.size w1 (w1.alloc (.cells #[.slice none 0 0, .slice none 0 0] 26))) := below_box _ _
    have hwx : w.heap.size < w1.heap.size := lt_of_block hb1
    obtain ⟨x, hx⟩ : ∃ x, w1.heap.size = x := ⟨_, rfl⟩
    have HXE := Lib.hid hx
    rw [hx] at HX0 HXB hwx
    have HB1 := Lib.hid hb1
    rw [hn] at hL2
    simp only [Option.isSome, Option.getD, hn]
    clear hx hn hb1 HV2
    go_wp2_with fail
    rw [HXE.out]
    go_loopw [22] (fun iv wr => ∃ (j : Nat) (vn vd : Value) (st : List Nd × List Dv), iv = .int .i64 j ∧ j ≤ n ∧ Hid (PB wr x vn vd st.1 st.2) ∧ Hid (Below x w1 wr) ∧ Hid (RI j st) ∧ Hid (At L j st)) (fun iv _ => n - (intOf iv).toNat)
    case atStart => exact ⟨0, _, _, ([], []), rfl, Nat.zero_le _, HX0, HXB, RI.start, At.start L⟩
    case round =>
      clear HX0 HXB
      obtain ⟨j, vn, vd, st, rfl, hj, pb, bel, ri, hat⟩ := hrel
      have BL : Hid (Below w.heap.size w wr) := BW.out.trans (bel.out.mono (Nat.le_of_lt hwx))
      have BX2 := Lib.hid pb.out.lt
      by_cases hjn : j < n
      · have hjl : j < L.length := by rw [HN.out]; exact hjn
        obtain ⟨g, rfl, hg, hc⟩ := ROW.out j hjl
        have c0 : wr.cell? ⟨g, j, none⟩ = some (.string (bs L[j])) := (bel.out.cell (p := ⟨g, j, none⟩) (by rw [← HXE.out]; exact hg)).trans hc
        have hlz := HZ.out _ (List.getElem_mem hjl)
        have WC := words_bs L[j] wr (HH.out _ BL.out) (by omega)
        unfold WordsPost at WC
        have WC := Lib.hid WC
        have hwg : ∀ q ∈ words L[j], lex.Good q := words_good L[j]
        have hww := words_wsum L[j]
        have hwz : ∀ q ∈ words L[j], q.length ≤ 200000 := fun q hq => by have := mem_wsum_le hq; omega
        have hwl : (words L[j]).length ≤ 200000 := by have := length_le_wsum (words L[j]); omega
        have AL := Lib.hid (fun w2 v2 (hv2 : StrsAt w2 wr.heap.size v2 (words L[j])) (b2 : Below wr.heap.size wr w2) =>
          addLine_is w2 x wr.heap.size vn vd v2 st.1 st.2 (words L[j]) (pb.out.below b2) (HH.out _ (BL.out.trans (b2.mono BL.out.size))) hv2 BX2.out hwg hwz (by have := ri.out.nl; omega) (by have := ri.out.dl; omega) hwl)
        have NX := Lib.hid (ri.out.line (by omega) hwz)
        have NA := Lib.hid (fun e => hat.out.next hjl e)
        have NB := Lib.hid (fun e => hat.out.bad HR.out hjl e)
        generalize words L[j] = ws at *
        generalize L[j] = lj at *
        obtain ⟨E, hE⟩ : ∃ E, lineE st.1 ws = E := ⟨_, rfl⟩
        have HE := Lib.hid hE
        clear hc hlz hwg hww hwz hwl hE hjl hg
        by_cases e0 : E = 0
        · have T : (E != 0) = false := by rw [e0]; rfl
          have E0 := Lib.hid e0
          clear e0
          go_wp2_with fail
          refine WC.out.mono ?_; rintro e w2 ⟨v2, rfl, hv2, b2⟩
          have AL2 := Lib.hid (AL.out w2 v2 hv2 b2)
          have BB := Lib.hid (bel.out.trans (b2.mono (Nat.le_of_lt BX2.out)))
          clear hv2 b2
          go_wp2_with fail
          refine AL2.out.mono ?_; rintro e w3 ⟨rfl, b3, hp⟩
          rw [HE.out] at hp ⊢
          have HP := Lib.hid (hp E0.out)
          have B3 := Lib.hid b3
          clear hp b3
          go_wp2
          go_roundw
          case rel =>
            obtain ⟨vn', vd', hp⟩ := HP.out
            exact ⟨j + 1, vn', vd', lineS st ws, by go_num, by omega, hp, BB.out.trans B3.out, NX.out, NA.out (HE.out.trans E0.out)⟩
          case measure => simp [intOf]; omega
        · have T := bne_t e0
          have NB2 := Lib.hid (NB.out (by rw [HE.out]; exact e0))
          clear e0
          go_wp2_with fail
          refine WC.out.mono ?_; rintro e w2 ⟨v2, rfl, hv2, b2⟩
          have AL2 := Lib.hid (AL.out w2 v2 hv2 b2)
          have BB := Lib.hid (bel.out.trans (b2.mono (Nat.le_of_lt BX2.out)))
          clear hv2 b2
          go_wp2_with fail
          refine AL2.out.mono ?_; rintro e w3 ⟨rfl, b3, -⟩
          rw [HE.out]
          have B3 := Lib.hid (BB.out.trans b3)
          have hb3 : w3.heap[w.heap.size]? = _ := (B3.out.block _ hwx).trans HB1.out
          obtain ⟨k0, k1, k2, k3⟩ := arr2 hb3
          have TS := Lib.hid (two_set (.slice none 0 0) (.slice none 0 0) hb3 rfl)
          have BE := Lib.hid (((BW.out.trans (B3.out.mono (Nat.le_of_lt hwx))).setCell (p := ⟨w.heap.size, 0, none⟩) (Nat.le_refl _) (.slice none 0 0)).setCell (p := ⟨w.heap.size, 1, none⟩) (Nat.le_refl _) (.slice none 0 0))
          have hw64 : IntKind.i64.wrap ((j : Int) + 1) = ((j + 1 : Nat) : Int) := by rw [IntKind.wrap_i64]; omega
          clear hb3 b3
          go_wp2
          refine bodyPost_ret (v := .tuple #[.agg #[.slice none 0 0, .slice none 0 0], .int .i64 ((j + 1 : Nat) : Int), .int .i64 E]) (by simp [results, Tryd.results18, go_sem, TS.out.1, TS.out.2]) rfl ?_
          unfold ParsePost
          rw [NB2.out, HE.out]
          exact ⟨none, 0, 0, none, 0, 0, rfl, net_none _, BE.out⟩
      · obtain rfl : n = j := by omega
        have hf := At.fin (st := st) (by rw [HN.out]; exact hat.out) HR.out
        obtain ⟨va, vc, vb, ve, rfl, rfl, hnet⟩ := ri.out.net pb.out
        obtain ⟨E, hE⟩ : ∃ E, chk st.1 st.2 = E := ⟨_, rfl⟩
        rw [hE] at hf
        obtain ⟨p0, p1, -, -⟩ := pb.out.cells
        have CK := Lib.hid (check_is va vb st.1.length vc st.2.length ve st.1 st.2 E wr (HH.out _ BL.out) hnet hE)
        have NI := Lib.hid (fun W (b : Below wr.heap.size wr W) => hnet.below b)
        have HF := Lib.hid hf
        clear hE hf hnet
        by_cases e0 : E = 0
        · subst e0
          have HF2 : Hid (parseR s.data.toList = (st, 0, 0)) := by show _ = _; rw [HF.out, if_pos rfl]
          go_wp2_with fail
          refine CK.out.mono ?_; rintro e w3 ⟨rfl, b3⟩
          have B3 := Lib.hid (bel.out.trans (b3.mono (Nat.le_of_lt BX2.out)))
          have hb3 : w3.heap[w.heap.size]? = _ := (B3.out.block _ hwx).trans HB1.out
          obtain ⟨k0, k1, k2, k3⟩ := arr2 hb3
          have p0' : w3.cell? ⟨x, 0, none⟩ = _ := (b3.cell (p := ⟨x, 0, none⟩) BX2.out).trans p0
          have p1' : w3.cell? ⟨x, 1, none⟩ = _ := (b3.cell (p := ⟨x, 1, none⟩) BX2.out).trans p1
          have TS := Lib.hid (two_set (.slice va st.1.length vc) (.slice vb st.2.length ve) hb3 rfl)
          have BE := Lib.hid (((BW.out.trans (B3.out.mono (Nat.le_of_lt hwx))).setCell (p := ⟨w.heap.size, 0, none⟩) (Nat.le_refl _) (.slice va st.1.length vc)).setCell (p := ⟨w.heap.size, 1, none⟩) (Nat.le_refl _) (.slice vb st.2.length ve))
          have NIE := Lib.hid (NetIn.far (NI.out w3 b3) pb.out b3 hwx rfl rfl)
          clear hb3 b3 p0 p1
          go_wp2
          refine bodyPost_ret (v := .tuple #[.agg #[.slice va st.1.length vc, .slice vb st.2.length ve], .int .i64 0, .int .i64 0]) (by simp [results, Tryd.results18, go_sem, TS.out.1, TS.out.2]) rfl ?_
          unfold ParsePost
          rw [HF2.out]
          exact ⟨va, _, vc, vb, _, ve, rfl, NIE.out _ _, BE.out⟩
        · have T := bne_t e0
          have HF2 : Hid (parseR s.data.toList = (([], []), 0, E)) := by show _ = _; rw [HF.out, if_neg e0]
          clear e0
          go_wp2_with fail
          refine CK.out.mono ?_; rintro e w3 ⟨rfl, b3⟩
          have B3 := Lib.hid (bel.out.trans (b3.mono (Nat.le_of_lt BX2.out)))
          have hb3 : w3.heap[w.heap.size]? = _ := (B3.out.block _ hwx).trans HB1.out
          obtain ⟨k0, k1, k2, k3⟩ := arr2 hb3
          have TS := Lib.hid (two_set (.slice none 0 0) (.slice none 0 0) hb3 rfl)
          have BE := Lib.hid (((BW.out.trans (B3.out.mono (Nat.le_of_lt hwx))).setCell (p := ⟨w.heap.size, 0, none⟩) (Nat.le_refl _) (.slice none 0 0)).setCell (p := ⟨w.heap.size, 1, none⟩) (Nat.le_refl _) (.slice none 0 0))
          clear hb3 b3 p0 p1
          go_wp2
          refine bodyPost_ret (v := .tuple #[.agg #[.slice none 0 0, .slice none 0 0], .int .i64 0, .int .i64 E]) (by simp [results, Tryd.results18, go_sem, TS.out.1, TS.out.2]) rfl ?_
          unfold ParsePost
          rw [HF2.out]
          exact ⟨none, 0, 0, none, 0, 0, rfl, net_none _, BE.out⟩
end Go.Proofs.YtdgllaiejhnjmaaDoor.mod
