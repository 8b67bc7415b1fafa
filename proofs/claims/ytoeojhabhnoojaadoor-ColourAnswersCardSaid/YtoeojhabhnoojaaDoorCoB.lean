/- The walks of layer 7: the parts of a valid state; Parts. Conditions: the tables 'classes' and 'flags' hold what their texts lay. -/
import Derived.Test.YtoeojhabhnoojaaDoorCoA
import Derived.Test.YtoeojhabhnoojaaDoorNtG
import Derived.Test.YtoeojhabhnoojaaDoorMkKp
namespace Go.Proofs.YtoeojhabhnoojaaDoor.col
open Go.RowKit Go.Maps lex aggs kit net deck msk

theorem NetIn.nf {w : World} {a b : Option Addr} {N c M d : Nat} {ns : List Nd} {ds : List Dv} (h : NetIn w a b N c M d ns ds) {k : Nat} (hk : w.heap.size ≤ k) : (∀ p, a = some p → p.block ≠ k) ∧ (∀ p, b = some p → p.block ≠ k) := by
  constructor
  · intro p hp
    rcases h.nin with ⟨e, _⟩ | ⟨q, o, e, hq, _⟩
    · rw [e] at hp; cases hp
    · rw [e] at hp; cases hp; exact Nat.ne_of_lt (Nat.lt_of_lt_of_le hq hk)
  · intro p hp
    rcases h.din with ⟨e, _⟩ | ⟨q, o, e, hq, _⟩
    · rw [e] at hp; cases hp
    · rw [e] at hp; cases hp; exact Nat.ne_of_lt (Nat.lt_of_lt_of_le hq hk)
theorem LIn.off {w : World} {a : Option Addr} {N c : Nat} {xs : List Int} (h : LIn w a N c xs) {k : Nat} (hk : w.heap.size ≤ k) (hp : 0 < N) : ∀ p, a = some p → some p.block ≠ some k := by
  intro p hq e
  obtain ⟨b, off, h1, h2, _⟩ := h.rin.some (by rw [h.len]; exact hp)
  rw [h1] at hq; cases hq
  injection e with e
  simp only at e
  omega
theorem dev_at {ds : List Dv} {i : Nat} (h : i < ds.length) : dK ds i = ds[i].ki ∧ dA ds i = ds[i].a.toNat ∧ dB ds i = ds[i].b.toNat := by
  unfold dK dA dB
  have e : ds.getD i default = ds[i] := by simp [List.getD_eq_getElem?_getD, h]
  rw [e]; exact ⟨rfl, rfl, rfl⟩
theorem edge_eq {ds : List Dv} {S : List Int} {i : Nat} {x k : Int} (hx : at0 S i = x) (hk : dK ds i = k) : edge ds S i = (decide (x = 2) && decide (1 ≤ k ∧ k ≤ 3)) := by unfold edge joinB; rw [hx, hk]
theorem ptK_yes {ds : List Dv} {S : List Int} {i : Nat} (h : edge ds S i = true) (v : Nat) : mrg (ptK ds S i) (dA ds i) (dB ds i) v = ptK ds S (i + 1) v := by rw [ptK, if_pos h]
theorem ptK_no {ds : List Dv} {S : List Int} {i : Nat} (h : edge ds S i = false) (v : Nat) : ptK ds S i v = ptK ds S (i + 1) v := by rw [ptK, if_neg (by rw [h]; decide)]
set_option maxRecDepth 100000 in
set_option maxHeartbeats 8000000 in
theorem parts_is (a b l : Option Addr) (N c M d k : Nat) (ns : List Nd) (ds : List Dv) (xs : List Int) (w : World) (h : NetIn w a b N c M d ns ds) (hx : LIn w l M k xs) (hc : chk ns ds = 0) :
    Calls Tryd.prog 40 #[.agg #[.slice a N c, .slice b M d], .slice l M k] w (NewI w (ptL ds xs N)) := by
  have hs := chk_small hc
  rw [h.nlen, h.dlen] at hs
  obtain ⟨hN, hM⟩ := hs
  have IT := Lib.hid (fun i hi => by have := chk_its hc i hi; rwa [h.nlen] at this)
  have bx := below_box w (.cells #[.slice a N c, .slice b M d] 26)
  have NT := NtAt.new w (.slice a N c) (.slice b M d) 26
  obtain ⟨w1, hw1⟩ : ∃ w1, w.alloc (.cells #[.slice a N c, .slice b M d] 26) = w1 := ⟨_, rfl⟩
  have sz1 : w1.heap.size = w.heap.size + 1 := by rw [← hw1]; simp
  rw [hw1] at bx NT
  have b2 := below_box w1 (.map #[] 0)
  have L0 := LM.made w1 N
  have NT2 := NT.alloc (.map #[] 0)
  obtain ⟨w2, hw2⟩ : ∃ w2, w1.alloc (.map #[] 0) = w2 := ⟨_, rfl⟩
  have sz2 : w2.heap.size = w1.heap.size + 1 := by rw [← hw2]; simp
  rw [hw2] at b2 L0 NT2
  have B2 := Lib.hid (bx.trans (b2.mono (by omega)))
  have NI2 := Lib.hid (h.below B2.out)
  have LI2 := Lib.hid (hx.below B2.out)
  obtain ⟨gn, hgn⟩ : ∃ g, w.heap.size = g := ⟨_, rfl⟩
  have NF2 := Lib.hid (NetIn.nf h (k := w1.heap.size) (by omega))
  have LO2 := Lib.hid (fun hp => LIn.off hx (k := w1.heap.size) (by omega) hp)
  have SZ : Hid (w2.heap.size = gn + 1 + 1) := by show _ = _; omega
  have e1 : w1.heap.size = gn + 1 := by omega
  rw [e1] at L0 NF2 LO2
  rw [hgn] at NT2
  have HG := Lib.hid hgn
  have hdl := Lib.hid h.dlen
  have hxl := Lib.hid hx.len
  have n1 := h.ncap
  have n2 := h.nmax
  have n3 := h.dcap
  have n4 := h.dmax
  have n5 := hx.cap
  have n6 := hx.max
  unfold maxLen at n2 n4 n6
  have LL := Lib.hid L0
  have k0 := NT2.1
  have k1 := NT2.2.1
  have C0 := Lib.hid NT2.1
  have C1 := Lib.hid NT2.2.1
  have hmm := @run_makeMap Tryd.prog
  clear h hx hc bx b2 NT NT2 L0
  go_enter Tryd.func40, Tryd.ntmps40
  go_wp2_with fail
  clear hw1 hw2 k0 k1 sz1 sz2 e1 hgn hmm
  go_loopw [14] (fun i wr => ∃ j : Nat, j ≤ M ∧ i = .int .i64 j ∧ Hid (LM wr (gn + 1) j N (ptK ds xs j)) ∧ Hid (w2.grownBy wr (some (gn + 1)))) (fun i _ => M - (intOf i).toNat)
  case atStart => exact ⟨0, Nat.zero_le _, rfl, LL.out, gb_refl _ _⟩
  case round =>
    clear LL
    obtain ⟨j, hj, rfl, lm, gb⟩ := hrel
    by_cases hlt : j < M
    · have hjd : j < ds.length := by rw [hdl.out]; exact hlt
      have hjx : j < xs.length := by rw [hxl.out]; exact hlt
      have NIw := NF.keep ⟨NI2.out, NF2.out⟩ gb.out
      have LIw := LI2.out.grown gb.out LO2.out
      obtain ⟨g, o, hbe, hg, hcd⟩ := NIw.din.some (by omega)
      obtain ⟨g2, o2, hle, hg2, hcl⟩ := LIw.rin.some (by omega)
      obtain ⟨c0, c1, c2, c3, c4⟩ := cells_dv hcd j hjd
      have s0 := cells_i hcl j hjx
      have it := IT.out j hjd
      obtain ⟨e1, e2, e3⟩ := dev_at hjd
      have e4 : ds.getD j default = ds[j] := by simp [List.getD_eq_getElem?_getD, hjd]
      rw [e4] at it
      obtain ⟨xd, hxd⟩ : ∃ x, ds[j] = x := ⟨_, rfl⟩
      obtain ⟨x, hx⟩ : ∃ x, at0 xs j = x := ⟨_, rfl⟩
      rw [hxd] at c0 c1 c2 c3 c4 e1 e2 e3 it
      rw [hx] at s0
      obtain ⟨nm, ki, da, db, co⟩ := xd
      dsimp only at c0 c1 c2 c3 c4 e1 e2 e3
      have ED := Lib.hid (edge_eq hx e1)
      have bb := below_box wr (.cells #[.string nm, .int .i64 ki, .int .i64 da, .int .i64 db, .int .i64 co] 57)
      rw [← bb.cell (p := ⟨g2, o2 + j, none⟩) hg2] at s0
      have lm2 := Lib.hid (lm.out.alloc (.cells #[.string nm, .int .i64 ki, .int .i64 da, .int .i64 db, .int .i64 co] 57))
      have gb2 : Hid (w2.grownBy (wr.alloc (.cells #[.string nm, .int .i64 ki, .int .i64 da, .int .i64 db, .int .i64 co] 57)) (some (gn + 1))) := grown_alloc gb.out _
      subst hbe
      subst hle
      clear hcd hcl NIw LIw bb hxd hx hg hg2 e4 hjd hjx lm gb
      by_cases h2 : x = 2
      · subst h2
        obtain ⟨jo, hjo⟩ : ∃ b, decide (1 ≤ ki ∧ ki ≤ 3) = b := ⟨_, rfl⟩
        have J := Lib.hid (fun W => joins_is ki jo hjo W)
        rw [hjo] at ED
        cases jo
        · have NX : Hid (LM (wr.alloc (.cells #[.string nm, .int .i64 ki, .int .i64 da, .int .i64 db, .int .i64 co] 57)) (gn + 1) (j + 1) N (ptK ds xs (j + 1))) := (lm2.out.mono (Nat.le_succ _)).same (ptK_no (by rw [ED.out]; rfl))
          clear hjo it e1 e2 e3 lm2
          go_wp2_with fail
          refine (J.out _).mono ?_; rintro e w' ⟨rfl, rfl⟩
          go_wp2
          go_roundw
          case rel => exact ⟨j + 1, by omega, by go_num, NX, gb2⟩
          case measure => simp [intOf]; omega
        · obtain ⟨⟨a0, a1⟩, hb⟩ := itsB_parts it
          have hk := of_decide_eq_true hjo
          simp only at a0 a1 hb
          obtain ⟨p, hp⟩ : ∃ p : Nat, da = p := ⟨da.toNat, by omega⟩
          obtain ⟨q, hq⟩ : ∃ q : Nat, db = q := ⟨db.toNat, by omega⟩
          subst hp
          subst hq
          have hpN : p < N := by omega
          have hqN : q < N := by omega
          rw [Int.toNat_natCast] at e2 e3
          have ED2 : Hid (∀ v, mrg (ptK ds xs j) p q v = ptK ds xs (j + 1) v) := fun v => by rw [← ptK_yes (by rw [ED.out]; rfl), e2, e3]
          have JN := Lib.hid (join_is (gn + 1) j N p q _ _ lm2.out hpN hqN (by omega) (by omega))
          clear hjo it e1 e2 e3 lm2 hb hk a0 a1 ED
          go_wp2_with fail
          refine (J.out _).mono ?_; rintro e w' ⟨rfl, rfl⟩
          go_wp2_with fail
          refine JN.out.mono ?_; rintro e w' ⟨rfl, lm3, g3⟩
          have NX := Lib.hid (lm3.same ED2.out)
          have NG := Lib.hid (gb_tr gb2.out g3)
          clear lm3 g3 JN gb2
          go_wp2
          go_roundw
          case rel => exact ⟨j + 1, by omega, by go_num, NX, NG⟩
          case measure => simp [intOf]; omega
      · have T1 : (x == 2) = false := beq_eq_false_iff_ne.2 h2
        have NX : Hid (LM (wr.alloc (.cells #[.string nm, .int .i64 ki, .int .i64 da, .int .i64 db, .int .i64 co] 57)) (gn + 1) (j + 1) N (ptK ds xs (j + 1))) := (lm2.out.mono (Nat.le_succ _)).same (ptK_no (by rw [ED.out, decide_eq_false h2]; rfl))
        clear h2 it e1 e2 e3 lm2 ED
        go_wp2
        go_roundw
        case rel => exact ⟨j + 1, by omega, by go_num, NX, gb2⟩
        case measure => simp [intOf]; omega
    · obtain rfl : j = M := by omega
      have k0 := gb.out.cell C0.out (by simp)
      have hmk := msk.make_ints N (by omega) wr
      have O0 := OwnI.made wr N (by unfold maxLen; omega)
      have bz := below_box wr (.cells (madeCells #[.int .i64 0] N) 3)
      have L4 := lm.out.alloc (.cells (madeCells #[.int .i64 0] N) 3)
      have hsz := gb.out.size
      rw [SZ.out] at hsz
      obtain ⟨sb, hsb⟩ : ∃ s, wr.heap.size = s := ⟨_, rfl⟩
      obtain ⟨w4, hw4⟩ : ∃ w4, wr.alloc (.cells (madeCells #[.int .i64 0] N) 3) = w4 := ⟨_, rfl⟩
      have BA := B2.out.grown gb.out (by have := SZ.out; have := HG.out; omega) (fun q hq => by cases hq; have := HG.out; omega)
      have B4 := Lib.hid (BA.trans (bz.mono (by have := HG.out; omega)))
      rw [hw4, hsb] at hmk O0
      rw [hw4] at L4 B4
      rw [hsb] at hsz
      have O0 := Lib.hid O0
      have z4 : w4.heap.size = sb + 1 := by rw [← hw4]; simp; exact hsb
      have Z4 := Lib.hid z4
      have L4 := Lib.hid (L4.same (q := pt ds xs) (fun v => by unfold pt; rw [hdl.out]))
      clear bz BA lm gb z4
      go_wp2_with fail
      clear hmk hw4 hsb k0
      go_loopw [42] (fun i wr => ∃ k : Nat, k ≤ N ∧ i = .int .i64 k ∧ Hid (OwnI wr sb (.slice (some ⟨sb, 0, none⟩) N N) (prL (ptL ds xs N) k)) ∧ Hid (w4.grownBy wr (some sb))) (fun i _ => N - (intOf i).toNat)
      case atStart => exact ⟨0, Nat.zero_le _, rfl, by show OwnI _ _ _ _; rw [prL_zero (ptL_len _ _ _)]; exact O0.out, gb_refl _ _⟩
      case round =>
        clear O0
        obtain ⟨k, hk, rfl, own, gb⟩ := hrel
        by_cases hlt : k < N
        · have OF := Lib.hid (of_is (gn + 1) j N k _ wr (L4.out.kept gb.out (by simp; omega)) hlt (by omega))
          obtain ⟨g3, e3, hlen, -, -, -, -, hcell⟩ := own.out.some (by omega)
          cases e3
          obtain ⟨c2, f2⟩ := hcell k hlt
          have st := own.out.set hlen k hlt (pt ds xs k : Int)
          rw [prL_step (by rw [ptL_len]; exact hlt) (ptL_at hlt)] at st
          have NU := Lib.hid st.1
          have NG := Lib.hid (gb_tr gb.out st.2)
          clear st hcell own gb hlen
          go_wp2_with fail
          refine OF.out.mono ?_; rintro e w' ⟨rfl, rfl⟩
          clear OF
          go_wp2
          go_roundw
          case rel => exact ⟨k + 1, by omega, by go_num, NU, NG⟩
          case measure => simp [intOf]; omega
        · obtain rfl : k = N := by omega
          have FIN : Hid (OwnI wr w.heap.size (.slice (some ⟨sb, 0, none⟩) k k) (ptL ds xs k)) := by
            show OwnI _ _ _ _
            have := own.out
            rw [prL_end (ptL_len _ _ _)] at this
            exact AggsAt.mono this (by have := HG.out; omega)
          have FB := Lib.hid (B4.out.grown gb.out (by have := Z4.out; have := HG.out; omega) (fun q hq => by cases hq; have := HG.out; omega))
          go_wp2
          go_ret
          exact ⟨_, rfl, FIN.out, FB.out⟩
end Go.Proofs.YtoeojhabhnoojaaDoor.col
