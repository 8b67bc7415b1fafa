/- The walks of layer 7: Colours, Joined, Faults. Conditions: the tables 'classes' and 'flags' hold what their texts lay. -/
import Derived.Test.YtoeojhabhnoojaaDoorCoC
import Derived.Test.YtoeojhabhnoojaaDoorMkB
namespace Go.Proofs.YtoeojhabhnoojaaDoor.col
open Go.RowKit Go.Maps lex aggs kit net deck msk

set_option maxRecDepth 100000 in
set_option maxHeartbeats 8000000 in
theorem Colours_is (a b l : Option Addr) (N c M d L k : Nat) (ns : List Nd) (ds : List Dv) (xs : List Int) (E : Int) (w : World) (H : STabs w) (h : NetIn w a b N c M d ns ds) (hx : LIn w l L k xs) (hE : chkM 2 ns ds xs = E) :
    Calls Tryd.prog 18 #[.agg #[.slice a N c, .slice b M d], .slice l L k] w (LsPost w (coL ds xs N) E) := by
  have bx := below_box w (.cells #[.slice a N c, .slice b M d] 26)
  have NT := NtAt.new w (.slice a N c) (.slice b M d) 26
  have BX := Lib.hid bx
  have S1 := Lib.hid (mState_is a b l N c M d L k ns ds xs E _ (H.cls.below bx) (H.flg.below bx) (h.below bx) (hx.below bx) hE)
  have hsz : (w.alloc (.cells #[.slice a N c, .slice b M d] 26)).heap.size = w.heap.size + 1 := by simp
  have SZ := Lib.hid hsz
  have HN := Lib.hid (fun wr (b : Below w.heap.size w wr) => h.below b)
  have HX := Lib.hid (fun wr (b : Below w.heap.size w wr) => hx.below b)
  have HE := Lib.hid hE
  have hlx := h.dlen
  have hll := hx.len
  obtain ⟨c0, c1, hlt⟩ := NT
  clear H h hx bx hE hsz
  go_enter Tryd.func18, Tryd.ntmps18
  go_wp2_with fail
  generalize w.alloc (.cells #[.slice a N c, .slice b M d] 26) = W1 at *
  refine S1.out.mono ?_
  rintro e w2 ⟨rfl, b2⟩
  have k0 := (b2.cell (p := ⟨w.heap.size, 0, none⟩) hlt).trans c0
  have k1 := (b2.cell (p := ⟨w.heap.size, 1, none⟩) hlt).trans c1
  have B2 := Lib.hid (BX.out.trans (b2.mono (by have := SZ.out; omega)))
  clear c0 c1 b2 S1
  by_cases e0 : E = 0
  · subst e0
    obtain ⟨q1, q2, -⟩ := chkM_zero HE.out
    have hLM : L = M := by rw [← hll, ← hlx, q2]
    subst hLM
    have P2 := Lib.hid (colours_is a b l N c L d k ns ds xs _ (HN.out _ B2.out) (HX.out _ B2.out) q1)
    clear q1 q2 HE
    go_wp2_with fail
    refine P2.out.mono ?_
    rintro e w3 ⟨v, rfl, own, b3⟩
    obtain ⟨av, cv, rfl, -, -⟩ := own.lin
    have OW : Hid (OwnI w3 w.heap.size _ (coL ds xs N)) := AggsAt.mono own (by have := B2.out.size; omega)
    have B3 := Lib.hid (B2.out.trans (b3.mono B2.out.size))
    clear own b3 P2
    go_wp2
    go_ret2
    exact ⟨_, rfl, by rw [if_pos rfl]; exact OW.out, B3.out⟩
  · have T1 : (E != 0) = true := bne_iff_ne.2 e0
    go_wp2
    go_ret2
    exact ⟨_, rfl, by rw [if_neg e0]; exact AggsAt.nil _ _ _ _ _, B2.out⟩
set_option maxRecDepth 100000 in
theorem cisNode_is (a : Option Addr) (N c : Nat) (x : Value) (v : Int) (r : Bool) (w : World) (hr : ndB N v = r) (_hl : N ≤ maxLen) (_v0 : -9223372036854775808 ≤ v) (_v1 : v ≤ 9223372036854775807) :
    Calls Tryd.prog 48 #[.agg #[.slice a N c, x], .int .i64 v] w fun e w' => e = .returned (.bool r) ∧ Below w.heap.size w w' := by
  subst hr
  have bx := Lib.hid (below_box w (.cells #[.slice a N c, x] 26))
  unfold maxLen at _hl
  by_cases h0 : 0 ≤ v
  · have hv : ndB N v = decide (v < (N : Int)) := by
      unfold ndB
      by_cases h1 : v < (N : Int)
      · rw [decide_eq_true ⟨h0, h1⟩, decide_eq_true h1]
      · rw [decide_eq_false (fun h => h1 h.2), decide_eq_false h1]
    rw [hv]
    have t1 : decide (0 ≤ v) = true := decide_eq_true h0
    clear hv
    go_enter Tryd.func48, Tryd.ntmps48
    go_wp2
    go_ret
    exact ⟨rfl, bx.out⟩
  · have hv : ndB N v = false := decide_eq_false (fun h => h0 h.1)
    rw [hv]
    have t1 : decide (0 ≤ v) = false := decide_eq_false h0
    clear hv
    go_enter Tryd.func48, Tryd.ntmps48
    go_wp2
    go_ret
    exact ⟨rfl, bx.out⟩
/-- what Joined says -/
def jnE (N : Nat) (ns : List Nd) (ds : List Dv) (xs : List Int) (u v : Int) : Int := if chkM 2 ns ds xs = 0 then if ndB N u = true ∧ ndB N v = true then 0 else 7 else chkM 2 ns ds xs
def jnB (N : Nat) (ns : List Nd) (ds : List Dv) (xs : List Int) (u v : Int) : Bool := decide (jnE N ns ds xs u v = 0) && decide (pt ds xs u.toNat = pt ds xs v.toNat)
theorem ret_bt {b d : Bool} {x y : Int} (g : b = d) (h : x = y) : Ending.returned (.tuple #[.bool b, .int .i64 x]) = .returned (.tuple #[.bool d, .int .i64 y]) := by rw [g, h]
set_option maxRecDepth 100000 in
set_option maxHeartbeats 8000000 in
theorem Joined_is (a b l : Option Addr) (N c M d L k : Nat) (ns : List Nd) (ds : List Dv) (xs : List Int) (u v : Int) (r : Bool) (E : Int) (w : World) (H : STabs w) (h : NetIn w a b N c M d ns ds) (hx : LIn w l L k xs)
    (u0 : -9223372036854775808 ≤ u) (u1 : u ≤ 9223372036854775807) (v0 : -9223372036854775808 ≤ v) (v1 : v ≤ 9223372036854775807) (hr : jnB N ns ds xs u v = r) (hE : jnE N ns ds xs u v = E) :
    Calls Tryd.prog 27 #[.agg #[.slice a N c, .slice b M d], .slice l L k, .int .i64 u, .int .i64 v] w fun e w' => e = .returned (.tuple #[.bool r, .int .i64 E]) ∧ Below w.heap.size w w' := by
  have bx := below_box w (.cells #[.slice a N c, .slice b M d] 26)
  have NT := NtAt.new w (.slice a N c) (.slice b M d) 26
  have BX := Lib.hid bx
  obtain ⟨F, hF⟩ : ∃ F, chkM 2 ns ds xs = F := ⟨_, rfl⟩
  have S1 := Lib.hid (mState_is a b l N c M d L k ns ds xs F _ (H.cls.below bx) (H.flg.below bx) (h.below bx) (hx.below bx) hF)
  have hsz : (w.alloc (.cells #[.slice a N c, .slice b M d] 26)).heap.size = w.heap.size + 1 := by simp
  have SZ := Lib.hid hsz
  have HN := Lib.hid (fun wr (b : Below w.heap.size w wr) => h.below b)
  have HX := Lib.hid (fun wr (b : Below w.heap.size w wr) => hx.below b)
  have HF := Lib.hid hF
  have hlx := h.dlen
  have hll := hx.len
  have n2 := Nat.le_trans h.ncap h.nmax
  obtain ⟨c0, c1, hlt⟩ := NT
  unfold jnE at hE
  rw [hF] at hE
  have HR : Hid (r = (decide (E = 0) && decide (pt ds xs u.toNat = pt ds xs v.toNat))) := by
    show _ = _
    rw [← hr]; unfold jnB jnE; rw [hF, hE]
  clear H h hx bx hsz hF hr
  go_enter Tryd.func27, Tryd.ntmps27
  go_wp2_with fail
  generalize w.alloc (.cells #[.slice a N c, .slice b M d] 26) = W1 at *
  refine S1.out.mono ?_
  rintro e w2 ⟨rfl, b2⟩
  have k0 := (b2.cell (p := ⟨w.heap.size, 0, none⟩) hlt).trans c0
  have k1 := (b2.cell (p := ⟨w.heap.size, 1, none⟩) hlt).trans c1
  have B2 := Lib.hid (BX.out.trans (b2.mono (by have := SZ.out; omega)))
  have hw2 := b2.size
  rw [SZ.out] at hw2
  clear c0 c1 b2 S1 hlt
  by_cases e0 : F = 0
  · subst e0
    rw [if_pos rfl] at hE
    obtain ⟨q1, q2, -⟩ := chkM_zero HF.out
    have hLM : L = M := by rw [← hll, ← hlx, q2]
    subst hLM
    obtain ⟨bu, hbu⟩ : ∃ x, ndB N u = x := ⟨_, rfl⟩
    obtain ⟨bv, hbv⟩ : ∃ x, ndB N v = x := ⟨_, rfl⟩
    rw [hbu, hbv] at hE
    have IU := Lib.hid (fun W => cisNode_is a N c (.slice b L d) u bu W hbu n2 u0 u1)
    have IV := Lib.hid (fun W => cisNode_is a N c (.slice b L d) v bv W hbv n2 v0 v1)
    have HBU := Lib.hid hbu
    have HBV := Lib.hid hbv
    have Q1 := Lib.hid q1
    have HE := Lib.hid hE
    clear hbu hbv q1 q2 HF hE
    cases bu
    · have e7 : E = 7 := by rw [← HE.out]; simp
      have HR2 : Hid (r = false) := by show _ = _; rw [HR.out, e7]; rfl
      subst e7
      go_wp2_with fail
      refine (IU.out _).mono ?_
      rintro e w3 ⟨rfl, b3⟩
      have B3 := Lib.hid (B2.out.trans (b3.mono B2.out.size))
      clear b3 IU IV
      go_wp2
      go_ret2
      exact ⟨ret_bt HR2.out.symm rfl, B3.out⟩
    · go_wp2_with fail
      refine (IU.out _).mono ?_
      rintro e w3 ⟨rfl, b3⟩
      have B3 := Lib.hid (B2.out.trans (b3.mono B2.out.size))
      have k0 := (b3.cell (p := ⟨w.heap.size, 0, none⟩) (by show w.heap.size < _; omega)).trans k0
      have k1 := (b3.cell (p := ⟨w.heap.size, 1, none⟩) (by show w.heap.size < _; omega)).trans k1
      have hw3 := b3.size
      clear b3 IU
      go_wp2_with fail
      refine (IV.out _).mono ?_
      rintro e w4 ⟨rfl, b4⟩
      have B4 := Lib.hid (B3.out.trans (b4.mono B3.out.size))
      have k0 := (b4.cell (p := ⟨w.heap.size, 0, none⟩) (by show w.heap.size < _; omega)).trans k0
      have k1 := (b4.cell (p := ⟨w.heap.size, 1, none⟩) (by show w.heap.size < _; omega)).trans k1
      have hw4 := b4.size
      clear b4 IV
      cases bv
      · have e7 : E = 7 := by rw [← HE.out]; simp
        have HR2 : Hid (r = false) := by show _ = _; rw [HR.out, e7]; rfl
        subst e7
        go_wp2
        go_ret2
        exact ⟨ret_bt HR2.out.symm rfl, B4.out⟩
      · have e7 : E = 0 := by rw [← HE.out]; simp
        have HR2 : Hid (r = decide (pt ds xs u.toNat = pt ds xs v.toNat)) := by show _ = _; rw [HR.out, e7]; simp
        subst e7
        have hu := of_decide_eq_true HBU.out
        have hv := of_decide_eq_true HBV.out
        obtain ⟨p, hp⟩ : ∃ p : Nat, u = p := ⟨u.toNat, by omega⟩
        obtain ⟨q, hq⟩ : ∃ q : Nat, v = q := ⟨v.toNat, by omega⟩
        subst hp
        subst hq
        rw [Int.toNat_natCast, Int.toNat_natCast] at HR2
        have hpN : p < N := by omega
        have hqN : q < N := by omega
        have P2 := Lib.hid (parts_is a b l N c L d k ns ds xs _ (HN.out _ B4.out) (HX.out _ B4.out) Q1.out)
        clear hu hv u0 u1 v0 v1 HR HE HBU HBV
        go_wp2_with fail
        refine P2.out.mono ?_
        rintro e w5 ⟨v, rfl, own, b5⟩
        obtain ⟨av, cv, rfl, lv, -⟩ := own.lin
        rw [ptL_len] at lv ⊢
        have n5 := lv.cap
        have n6 := lv.max
        unfold maxLen at n6
        obtain ⟨g3, o3, rfl, hg3, hcp⟩ := lv.rin.some (by rw [ptL_len]; omega)
        have r0 := cells_i hcp p (by rw [ptL_len]; exact hpN)
        have r1 := cells_i hcp q (by rw [ptL_len]; exact hqN)
        rw [ptL_at hpN] at r0
        rw [ptL_at hqN] at r1
        obtain ⟨A, hA⟩ : ∃ x, pt ds xs p = x := ⟨_, rfl⟩
        obtain ⟨B, hB⟩ : ∃ x, pt ds xs q = x := ⟨_, rfl⟩
        rw [hA] at r0
        rw [hB] at r1
        rw [hA, hB] at HR2
        have B5 := Lib.hid (B4.out.trans (b5.mono B4.out.size))
        clear own b5 P2 lv hA hB hcp hg3
        go_wp2
        go_quiet (fail)
        go_wp2
        go_ret2
        refine ⟨ret_bt ?_ rfl, below_drewN B5.out _⟩
        rw [HR2.out]
        by_cases e : A = B
        · subst e; simp
        · rw [decide_eq_false e]; exact beq_eq_false_iff_ne.2 (by omega)
  · have T1 : (F != 0) = true := bne_iff_ne.2 e0
    rw [if_neg e0] at hE
    subst hE
    have HR2 : Hid (r = false) := by show _ = _; rw [HR.out, decide_eq_false e0]; rfl
    go_wp2
    go_ret2
    exact ⟨ret_bt HR2.out.symm rfl, B2.out⟩
/-- the nodes with both colours -/
def faL (ds : List Dv) (S : List Int) (N : Nat) : List Int := ints (faK (colr ds S) N)
set_option maxRecDepth 100000 in
set_option maxHeartbeats 8000000 in
theorem Faults_is (a b l : Option Addr) (N c M d L k : Nat) (ns : List Nd) (ds : List Dv) (xs : List Int) (E : Int) (w : World) (H : STabs w) (h : NetIn w a b N c M d ns ds) (hx : LIn w l L k xs) (hE : chkM 2 ns ds xs = E) :
    Calls Tryd.prog 22 #[.agg #[.slice a N c, .slice b M d], .slice l L k] w (LsPost w (faL ds xs N) E) := by
  obtain ⟨i0, hi, hz0, hz1, hz2⟩ := info_parts infoI
  have bx := below_box w (.cells #[.slice a N c, .slice b M d] 26)
  have NT := NtAt.new w (.slice a N c) (.slice b M d) 26
  have BX := Lib.hid bx
  have C1 := Lib.hid (Colours_is a b l N c M d L k ns ds xs E _ (H.below bx) (h.below bx) (hx.below bx) hE)
  have hsz : (w.alloc (.cells #[.slice a N c, .slice b M d] 26)).heap.size = w.heap.size + 1 := by simp
  have SZ := Lib.hid hsz
  have HC := Lib.hid (fun h0 : chk ns ds = 0 => (by have := (chk_small h0).1; rwa [h.nlen] at this : N ≤ 32))
  have HE := Lib.hid hE
  obtain ⟨c0, c1, hlt⟩ := NT
  clear H h hx bx hE hsz
  go_enter Tryd.func22, Tryd.ntmps22
  go_wp2_with fail
  generalize w.alloc (.cells #[.slice a N c, .slice b M d] 26) = W1 at *
  refine C1.out.mono ?_
  rintro e w2 ⟨v, rfl, own, b2⟩
  have B2 := Lib.hid (BX.out.trans (b2.mono (by have := SZ.out; omega)))
  have hw2 := b2.size
  rw [SZ.out] at hw2
  clear c0 c1 b2 C1 hlt
  by_cases e0 : E = 0
  · subst e0
    rw [if_pos rfl] at own
    obtain ⟨ap, cp, rfl, lp, lpo⟩ := own.lin
    rw [coL_len] at lp ⊢
    have hN : N ≤ 32 := HC.out (chkM_zero HE.out).1
    have p1 := lp.cap
    have p2 := lp.max
    unfold maxLen at p2
    have LP := Lib.hid (fun wr (b : Below w2.heap.size w2 wr) => lp.below b)
    clear own lp lpo HE HC
    go_wp2
    go_loopw [8, 22] (fun q i wr => ∃ k : Nat, k ≤ N ∧ i = .int .i64 k ∧ Hid (OwnI wr w2.heap.size q (ints (faK (colr ds xs) k))) ∧ Hid (Below w2.heap.size w2 wr)) (fun _ i _ => N - (intOf i).toNat)
    case atStart => exact ⟨0, Nat.zero_le _, rfl, AggsAt.nil _ _ _ _ _, Below.refl _ _⟩
    case round =>
      obtain ⟨k, hk, rfl, own, bel⟩ := hrel
      by_cases hlt : k < N
      · obtain ⟨g, o, rfl, hg, hc⟩ := (LP.out _ bel.out).rin.some (by rw [coL_len]; omega)
        have c0 := cells_i hc k (by rw [coL_len]; exact hlt)
        rw [coL_at hlt] at c0
        obtain ⟨x, hx⟩ : ∃ x, colr ds xs k = x := ⟨_, rfl⟩
        rw [hx] at c0
        have HX := Lib.hid hx
        have hul := faK_le (colr ds xs) k
        clear hx hc hg
        by_cases h3 : x = 3
        · subst h3
          have own2 := Lib.hid (AggsAt.alloc own.out (.cells #[.int .i64 (k : Int)] 3))
          have bel2 := Lib.hid (bel.out.trans ((below_box wr (.cells #[.int .i64 (k : Int)] 3)).mono bel.out.size))
          clear own bel
          go_wp2_with (at_builtin; go_must (refine wpList_append_own _ rfl (.tmp 29) (.tmp 31) 22 rfl w2.heap.size 3 i0 _ 1 8 Tryd.underlying22 hi hz0 hz1 hz2 rfl (by decide) u8 (ints (faK (colr ds xs) k)).length (flat encI (ints (faK (colr ds xs) k))) rfl own2.out _ 1 1 (encI (k : Int)) rfl rfl ?qc1 ?qc2 ?qc3 ?qc4 ?qc5 ?_))
          case qc1 => exact cell_newI _ _ rfl _ _
          case qc2 => exact encI_one _
          case qc3 => rw [ints_len]; unfold maxLen; omega
          case qc4 => rw [ints_len]; omega
          case qc5 => exact bel2.out.size
          intro v' w5 hown' hgrow hnil'
          have NU : Hid (OwnI w5 w2.heap.size v' (ints (faK (colr ds xs) (k + 1)))) := by
            show OwnI _ _ _ _
            rw [faK, if_pos HX.out, ints_snoc]; exact AggsAt.push hown'
          have B5 := Lib.hid (bel2.out.grown hgrow bel2.out.size (fun q hq => (World.ownsRow.lt own2.out q hq).1))
          clear hown' hgrow hnil' own2 bel2
          go_wp2
          go_roundw
          case rel => exact ⟨k + 1, by omega, by go_num, NU, B5⟩
          case measure => simp [intOf]; omega
        · have T1 : (x == 3) = false := beq_eq_false_iff_ne.2 h3
          have NU : Hid (OwnI wr w2.heap.size u8 (ints (faK (colr ds xs) (k + 1)))) := by
            show OwnI _ _ _ _
            rw [faK, if_neg (by rw [HX.out]; exact h3)]; exact own.out
          clear h3 own
          go_wp2
          go_roundw
          case rel => exact ⟨k + 1, by omega, by go_num, NU, bel⟩
          case measure => simp [intOf]; omega
      · obtain rfl : k = N := by omega
        have FIN : Hid (OwnI wr w.heap.size u8 (faL ds xs k)) := AggsAt.mono own.out (by omega)
        have FB := Lib.hid (B2.out.trans (bel.out.mono B2.out.size))
        go_wp2
        go_ret2
        exact ⟨_, rfl, by rw [if_pos rfl]; exact FIN.out, FB.out⟩
  · have T1 : (E != 0) = true := bne_iff_ne.2 e0
    go_wp2
    go_ret2
    exact ⟨_, rfl, by rw [if_neg e0]; exact AggsAt.nil _ _ _ _ _, B2.out⟩
end Go.Proofs.YtoeojhabhnoojaaDoor.col
