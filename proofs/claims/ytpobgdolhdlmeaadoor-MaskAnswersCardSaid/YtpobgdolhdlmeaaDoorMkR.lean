/- The walks of layer 6's reference: masked, Check, State, Agrees, Unknown, Count, Lowest, Highest, Meet, Join, Finer. They compute what the plain facts say. Condition: at most 64 elements. -/
import Derived.Test.YtpobgdolhdlmeaaDoorMkK
import Derived.Test.YtpobgdolhdlmeaaDoorMkV
import Derived.Test.YtpobgdolhdlmeaaDoorNetQ
import Derived.Deep.RegionHeld3
import Derived.Laws.AppendOwnNone
namespace Go.Proofs.YtpobgdolhdlmeaaDoor.msk
open Go.RowKit lex aggs kit net deck

set_option maxRecDepth 100000 in
set_option maxHeartbeats 1000000 in
theorem rmasked_is (a : Option Addr) (N c : Nat) (xs : List Int) (r : Bool) (w : World) (h : LIn w a N c xs) (hr : xs.all mB = r) :
    Calls Tryd.prog 46 #[.slice a N c] w fun e w' => e = .returned (.bool r) ∧ w = w' := by
  subst hr
  have hn := Lib.hid h.len
  have n2 := h.cap
  have n3 := h.max
  unfold maxLen at n3
  have HL := Lib.hid h
  clear h
  go_enter Tryd.func46, Tryd.ntmps46
  go_wp2
  go_loop [3] (fun i => ∃ k : Nat, k ≤ N ∧ i = .int .i64 k ∧ Hid (∀ j, j < k → mB (at0 xs j) = true)) (fun i => N - (intOf i).toNat)
  case atStart => exact ⟨0, Nat.zero_le _, rfl, fun j hj => absurd hj (Nat.not_lt_zero j)⟩
  case round =>
    obtain ⟨k, hk, rfl, hd⟩ := hrel
    by_cases hlt : k < N
    · have hkx : k < xs.length := by rw [hn.out]; exact hlt
      obtain ⟨g, o, rfl, hg, hc⟩ := HL.out.rin.some (by omega)
      have c0 := cells_i hc k hkx
      have NO := Lib.hid (fun h => all_no (p := mB) hkx h)
      have YES : Hid (mB (at0 xs k) = true → ∀ j, j < k + 1 → mB (at0 xs j) = true) := fun h j hj => by
        by_cases e : j = k
        · subst e; exact h
        · exact hd.out j (by omega)
      generalize at0 xs k = x at *
      clear hc hg hd hkx
      by_cases h1 : x < 1
      · have no := Lib.hid (NO.out (mB_no.2 (by omega)))
        go_wp2
        go_ret
        exact ⟨ret_bool no.out.symm, rfl⟩
      · by_cases h3 : 3 < x
        · have no := Lib.hid (NO.out (mB_no.2 (by omega)))
          go_wp2
          go_ret
          exact ⟨ret_bool no.out.symm, rfl⟩
        · have yes := Lib.hid (YES.out (mB_iff.2 (by omega)))
          go_wp2
          go_round
          case rel => exact ⟨k + 1, by omega, by go_num, yes⟩
          case measure => simp [intOf]; omega
    · obtain rfl : k = N := by omega
      have yes := Lib.hid ((all_iff (p := mB) (l := xs)).2 (fun i hi => hd.out i (by rw [hn.out] at hi; exact hi)))
      go_wp2
      go_ret
      exact ⟨ret_bool yes.out.symm, rfl⟩
theorem hB_most {f mo : Int} (h : f = 1 ∧ mo = 3 ∨ f = 2 ∧ mo = 2) (x : Int) : hB f x = decide (1 ≤ x ∧ x ≤ mo) := by
  rcases h with ⟨rfl, rfl⟩ | ⟨rfl, rfl⟩ <;> rfl
set_option maxRecDepth 100000 in
set_option maxHeartbeats 2000000 in
theorem rpos_is (a b l : Option Addr) (N c M d L k : Nat) (ns : List Nd) (ds : List Dv) (xs : List Int) (f mo r : Int) (w : World) (h : NetIn w a b N c M d ns ds) (hx : LIn w l L k xs) (hf : f = 1 ∧ mo = 3 ∨ f = 2 ∧ mo = 2) (hr : chkM f ns ds xs = r) :
    Calls Tryd.prog 49 #[.agg #[.slice a N c, .slice b M d], .slice l L k, .int .i64 mo] w fun e w' => e = .returned (.int .i64 r) ∧ Below w.heap.size w w' := by
  subst hr
  have bx := below_box w (.cells #[.slice a N c, .slice b M d] 26)
  have NT := NtAt.new w (.slice a N c) (.slice b M d) 26
  obtain ⟨c0, c1, -⟩ := NT
  have BX := Lib.hid bx
  have H2 := Lib.hid (h.below bx)
  have HLX := Lib.hid (fun wr (b : Below w.heap.size w wr) => hx.below b)
  have hn := Lib.hid hx.len
  have hm := Lib.hid h.dlen
  have n2 := hx.cap
  have n3 := hx.max
  have m2 := h.dcap
  have m3 := h.dmax
  unfold maxLen at n3 m3
  have HB := Lib.hid (hB_most hf)
  have hmo : 2 ≤ mo ∧ mo ≤ 3 := by omega
  obtain ⟨E, hE⟩ : ∃ E, chk ns ds = E := ⟨_, rfl⟩
  have HE := Lib.hid hE
  clear bx h hx hE hf
  by_cases e0 : E = 0
  · subst e0
    have hv : Hid (chkM f ns ds xs = if xs.length = ds.length then if xs.all (hB f) = true then 0 else 10 else 9) := by show _ = _; unfold chkM; rw [if_pos HE.out]
    by_cases e1 : L = M
    · have hv2 : Hid (chkM f ns ds xs = if xs.all (hB f) = true then 0 else 10) := by show _ = _; rw [hv.out, if_pos (by rw [hn.out, hm.out, e1])]
      subst e1
      clear hv
      go_enter Tryd.func49, Tryd.ntmps49
      go_wp2_with fail
      refine (rcheck_is a b N c L d ns ds 0 _ H2.out HE.out).mono ?_
      rintro e w2 ⟨rfl, b2⟩
      have B2 := Lib.hid (BX.out.trans (b2.mono (by simp)))
      obtain ⟨k0, k1⟩ : w2.cell? ⟨w.heap.size, 0, none⟩ = some (.slice a N c) ∧ w2.cell? ⟨w.heap.size, 1, none⟩ = some (.slice b L d) :=
        ⟨(b2.cell (p := ⟨w.heap.size, 0, none⟩) (by simp)).trans c0, (b2.cell (p := ⟨w.heap.size, 1, none⟩) (by simp)).trans c1⟩
      have HL := Lib.hid (HLX.out _ B2.out)
      clear b2 c0 c1
      go_wp2
      clear k0 k1
      go_loop [8] (fun i => ∃ k : Nat, k ≤ L ∧ i = .int .i64 k ∧ Hid (∀ j, j < k → hB f (at0 xs j) = true)) (fun i => L - (intOf i).toNat)
      case atStart => exact ⟨0, Nat.zero_le _, rfl, fun j hj => absurd hj (Nat.not_lt_zero j)⟩
      case round =>
        obtain ⟨q, hq, rfl, hd⟩ := hrel
        by_cases hlt : q < L
        · have hqx : q < xs.length := by rw [hn.out]; exact hlt
          obtain ⟨g, o, rfl, hg, hc⟩ := HL.out.rin.some (by omega)
          have c0 := cells_i hc q hqx
          have NO := Lib.hid (fun h => all_no (p := hB f) hqx h)
          have YES : Hid (hB f (at0 xs q) = true → ∀ j, j < q + 1 → hB f (at0 xs j) = true) := fun h j hj => by
            by_cases e : j = q
            · subst e; exact h
            · exact hd.out j (by omega)
          generalize at0 xs q = x at *
          clear hc hg hd hqx
          by_cases h1 : x < 1
          · have no := Lib.hid (NO.out (by rw [HB.out]; exact decide_eq_false (by omega)))
            go_wp2
            go_ret
            exact ⟨ret_int (by rw [hv2.out, no.out]; rfl), B2.out⟩
          · by_cases h3 : mo < x
            · have no := Lib.hid (NO.out (by rw [HB.out]; exact decide_eq_false (by omega)))
              go_wp2
              go_ret
              exact ⟨ret_int (by rw [hv2.out, no.out]; rfl), B2.out⟩
            · have yes := Lib.hid (YES.out (by rw [HB.out]; exact decide_eq_true (by omega)))
              go_wp2
              go_round
              case rel => exact ⟨q + 1, by omega, by go_num, yes⟩
              case measure => simp [intOf]; omega
        · obtain rfl : q = L := by omega
          have yes := Lib.hid ((all_iff (p := hB f) (l := xs)).2 (fun i hi => hd.out i (by rw [hn.out] at hi; exact hi)))
          go_wp2
          go_ret
          exact ⟨ret_int (by rw [hv2.out, if_pos yes.out]), B2.out⟩
    · have hv2 : Hid (chkM f ns ds xs = 9) := by show _ = _; rw [hv.out, if_neg (by rw [hn.out, hm.out]; exact e1)]
      have T1 : ((L : Int) != (M : Int)) = true := bne_iff_ne.2 (by omega)
      clear hv
      go_enter Tryd.func49, Tryd.ntmps49
      go_wp2_with fail
      refine (rcheck_is a b N c M d ns ds 0 _ H2.out HE.out).mono ?_
      rintro e w2 ⟨rfl, b2⟩
      have B2 := Lib.hid (BX.out.trans (b2.mono (by simp)))
      obtain ⟨k0, k1⟩ : w2.cell? ⟨w.heap.size, 0, none⟩ = some (.slice a N c) ∧ w2.cell? ⟨w.heap.size, 1, none⟩ = some (.slice b M d) :=
        ⟨(b2.cell (p := ⟨w.heap.size, 0, none⟩) (by simp)).trans c0, (b2.cell (p := ⟨w.heap.size, 1, none⟩) (by simp)).trans c1⟩
      clear b2 c0 c1
      go_wp2
      go_ret
      exact ⟨ret_int (by rw [hv2.out]), B2.out⟩
  · have hv : Hid (chkM f ns ds xs = E) := by show _ = _; unfold chkM; rw [HE.out, if_neg e0]
    have T1 : (E != 0) = true := bne_iff_ne.2 e0
    go_enter Tryd.func49, Tryd.ntmps49
    go_wp2_with fail
    refine (rcheck_is a b N c M d ns ds E _ H2.out HE.out).mono ?_
    rintro e w2 ⟨rfl, b2⟩
    have B2 := Lib.hid (BX.out.trans (b2.mono (by simp)))
    clear b2 c0 c1
    go_wp2
    go_ret
    exact ⟨ret_int (by rw [hv.out]), B2.out⟩
theorem rCheck_is (a b l : Option Addr) (N c M d L k : Nat) (ns : List Nd) (ds : List Dv) (xs : List Int) (r : Int) (w : World) (h : NetIn w a b N c M d ns ds) (hx : LIn w l L k xs) (hr : chkM 1 ns ds xs = r) :
    Calls Tryd.prog 20 #[.agg #[.slice a N c, .slice b M d], .slice l L k] w fun e w' => e = .returned (.int .i64 r) ∧ Below w.heap.size w w' := by
  have bx := below_box w (.cells #[.slice a N c, .slice b M d] 26)
  have CC := Lib.hid (rpos_is a b l N c M d L k ns ds xs 1 3 r _ (h.below bx) (hx.below bx) (.inl ⟨rfl, rfl⟩) hr)
  have BX := Lib.hid bx
  clear h hx hr bx
  go_enter Tryd.func20, Tryd.ntmps20
  go_wp2_with fail
  refine CC.out.mono ?_; rintro e w2 ⟨rfl, b2⟩
  have B2 := Lib.hid (BX.out.trans (b2.mono (by simp)))
  clear b2
  go_wp2
  go_ret
  exact ⟨rfl, B2.out⟩
theorem rState_is (a b l : Option Addr) (N c M d L k : Nat) (ns : List Nd) (ds : List Dv) (xs : List Int) (r : Int) (w : World) (h : NetIn w a b N c M d ns ds) (hx : LIn w l L k xs) (hr : chkM 2 ns ds xs = r) :
    Calls Tryd.prog 22 #[.agg #[.slice a N c, .slice b M d], .slice l L k] w fun e w' => e = .returned (.int .i64 r) ∧ Below w.heap.size w w' := by
  have bx := below_box w (.cells #[.slice a N c, .slice b M d] 26)
  have CC := Lib.hid (rpos_is a b l N c M d L k ns ds xs 2 2 r _ (h.below bx) (hx.below bx) (.inr ⟨rfl, rfl⟩) hr)
  have BX := Lib.hid bx
  clear h hx hr bx
  go_enter Tryd.func22, Tryd.ntmps22
  go_wp2_with fail
  refine CC.out.mono ?_; rintro e w2 ⟨rfl, b2⟩
  have B2 := Lib.hid (BX.out.trans (b2.mono (by simp)))
  clear b2
  go_wp2
  go_ret
  exact ⟨rfl, B2.out⟩
set_option maxRecDepth 100000 in
set_option maxHeartbeats 1000000 in
theorem runknown_is (a : Option Addr) (N c : Nat) (xs : List Int) (w : World) (h : LIn w a N c xs) (h64 : N ≤ 64) :
    Calls Tryd.prog 25 #[.slice a N c] w (NewI w (ints (unkL xs))) := by
  have hn := Lib.hid h.len
  have n2 := h.cap
  have n3 := h.max
  unfold maxLen at n3
  obtain ⟨i0, hi, hz0, hz1, hz2⟩ := info_parts infoI
  have HL := Lib.hid (fun wr (b : Below w.heap.size w wr) => h.below b)
  clear h
  go_enter Tryd.func25, Tryd.ntmps25
  go_wp2
  go_loopw [3, 4] (fun p i wr => ∃ k : Nat, k ≤ N ∧ i = .int .i64 k ∧ Hid (OwnI wr w.heap.size p (ints (unk (at0 xs) k))) ∧ Hid (Below w.heap.size w wr)) (fun _ i _ => N - (intOf i).toNat)
  case atStart => exact ⟨0, Nat.zero_le _, rfl, AggsAt.nil _ _ _ _ _, Below.refl _ _⟩
  case round =>
    obtain ⟨k, hk, rfl, own, bel⟩ := hrel
    by_cases hlt : k < N
    · have hkx : k < xs.length := by rw [hn.out]; exact hlt
      obtain ⟨g, o, rfl, hg, hc⟩ := (HL.out _ bel.out).rin.some (by omega)
      have c0 := cells_i hc k hkx
      obtain ⟨x, hx⟩ : ∃ x, at0 xs k = x := ⟨_, rfl⟩
      rw [hx] at c0
      have HX := Lib.hid hx
      have hul := unk_le (at0 xs) k
      clear hx hc hg hkx
      by_cases h3 : x = 3
      · subst h3
        have own2 := Lib.hid (AggsAt.alloc own.out (.cells #[.int .i64 (k : Int)] 3))
        have bel2 := Lib.hid (bel.out.trans ((below_box wr (.cells #[.int .i64 (k : Int)] 3)).mono bel.out.size))
        clear own bel
        go_wp2_with (at_builtin; go_must (refine wpList_append_own _ rfl (.tmp 16) (.tmp 18) 22 rfl w.heap.size 3 i0 _ 1 8 Tryd.underlying22 hi hz0 hz1 hz2 rfl (by decide) u3 (ints (unk (at0 xs) k)).length (flat encI (ints (unk (at0 xs) k))) rfl own2.out _ 1 1 (encI (k : Int)) rfl rfl ?qc1 ?qc2 ?qc3 ?qc4 ?qc5 ?_))
        case qc1 => exact cell_newI _ _ rfl _ _
        case qc2 => exact encI_one _
        case qc3 => rw [ints_len]; unfold maxLen; omega
        case qc4 => rw [ints_len]; omega
        case qc5 => exact bel2.out.size
        intro v' w5 hown' hgrow hnil'
        have NU : Hid (OwnI w5 w.heap.size v' (ints (unk (at0 xs) (k + 1)))) := by
          show OwnI _ _ _ _
          rw [unk, if_pos HX.out, ints_snoc]; exact AggsAt.push hown'
        have B5 := Lib.hid (bel2.out.grown hgrow bel2.out.size (fun q hq => (World.ownsRow.lt own2.out q hq).1))
        clear hown' hgrow hnil' own2 bel2
        go_wp2
        go_roundw
        case rel => exact ⟨k + 1, by omega, by go_num, NU, B5⟩
        case measure => simp [intOf]; omega
      · have T1 : (x == 3) = false := beq_eq_false_iff_ne.2 h3
        have NU : Hid (OwnI wr w.heap.size u3 (ints (unk (at0 xs) (k + 1)))) := by
          show OwnI _ _ _ _
          rw [unk, if_neg (by rw [HX.out]; exact h3)]; exact own.out
        clear h3 own
        go_wp2
        go_roundw
        case rel => exact ⟨k + 1, by omega, by go_num, NU, bel⟩
        case measure => simp [intOf]; omega
    · obtain rfl : k = N := by omega
      go_wp2
      go_ret
      exact ⟨_, rfl, by rw [unkL, hn.out]; exact own.out, bel.out⟩
set_option maxRecDepth 100000 in
set_option maxHeartbeats 1000000 in
theorem rcount_is (a : Option Addr) (N c : Nat) (xs : List Int) (w : World) (h : LIn w a N c xs) (h64 : N ≤ 64) :
    Calls Tryd.prog 16 #[.slice a N c] w fun e w' => e = .returned (.tuple #[.int .i64 (countV xs), .int .i64 (countE xs)]) ∧ Below w.heap.size w w' := by
  have HL := Lib.hid h
  clear h
  obtain ⟨b, hb⟩ : ∃ b, xs.all mB = b := ⟨_, rfl⟩
  have HB := Lib.hid hb
  clear hb
  cases b
  · obtain ⟨e1, e2⟩ := count_no HB.out
    rw [e1, e2]
    clear e1 e2
    go_enter Tryd.func16, Tryd.ntmps16
    go_wp2_with (go_at_call 46; refine (rmasked_is _ _ _ _ false _ HL.out HB.out).mono ?_; rintro e w' ⟨rfl, rfl⟩)
    go_ret2
    exact ⟨rfl, Below.refl _ _⟩
  · obtain ⟨V, hV⟩ : ∃ v, countV xs = v := ⟨_, rfl⟩
    obtain ⟨E, hE⟩ : ∃ v, countE xs = v := ⟨_, rfl⟩
    have HV := Lib.hid hV
    have HE := Lib.hid hE
    rw [hV, hE]
    clear hV hE
    go_enter Tryd.func16, Tryd.ntmps16
    go_wp2_with (go_at_call 46; refine (rmasked_is _ _ _ _ true _ HL.out HB.out).mono ?_; rintro e w' ⟨rfl, rfl⟩)
    refine (runknown_is _ _ _ _ _ HL.out h64).mono ?_
    rintro e w1 ⟨v, rfl, hv, bel⟩
    obtain ⟨a1, c1, rfl, -, -⟩ := hv.lin
    have hul := unk_le (at0 xs) xs.length
    rw [HL.out.len] at hul
    have BB := Lib.hid bel
    obtain ⟨u, hu⟩ : ∃ u, (unkL xs).length = u := ⟨_, rfl⟩
    rw [ints_len, hu]
    have HU := Lib.hid hu
    have hu64 : u ≤ 64 := by rw [← hu, unkL, HL.out.len]; omega
    clear hv bel hu hul
    by_cases h8 : 8 < u
    · have hc := Lib.hid (count_many HB.out (by rw [HU.out]; exact h8))
      go_wp2
      go_ret2
      exact ⟨ret_two (by rw [← HV.out, hc.out.1]) (by rw [← HE.out, hc.out.2]), BB.out⟩
    · have hc := Lib.hid (count_yes HB.out (by rw [HU.out]; omega))
      rw [HU.out] at hc
      rcases (show u = 0 ∨ u = 1 ∨ u = 2 ∨ u = 3 ∨ u = 4 ∨ u = 5 ∨ u = 6 ∨ u = 7 ∨ u = 8 by omega) with rfl | rfl | rfl | rfl | rfl | rfl | rfl | rfl | rfl
      all_goals (
        clear h8 hu64
        go_wp2
        go_ret2
        exact ⟨ret_two (by rw [← HV.out, hc.out.1]; decide +kernel) (by rw [← HE.out, hc.out.2]), BB.out⟩)
/-- the first k elements replaced where they are unknown -/
def filL (q : Int) (xs : List Int) (k : Nat) : List Int := (List.range xs.length).map fun i => if at0 xs i = 3 ∧ i < k then q else at0 xs i
theorem filL_len (q : Int) (xs : List Int) (k : Nat) : (filL q xs k).length = xs.length := by simp [filL]
theorem filL_at {q : Int} {xs : List Int} {k i : Nat} (hi : i < xs.length) : at0 (filL q xs k) i = if at0 xs i = 3 ∧ i < k then q else at0 xs i := by
  rw [at0_get (by rw [filL_len]; exact hi)]; simp [filL]
theorem filL_zero (q : Int) (xs : List Int) : filL q xs 0 = xs := by
  refine ext0 (filL_len _ _ _) (fun i hi => ?_)
  rw [filL_len] at hi
  rw [filL_at hi, if_neg (by omega)]
theorem filL_end (q : Int) (xs : List Int) : filL q xs xs.length = setL q xs := by
  refine ext0 (by rw [filL_len, setL_len]) (fun i hi => ?_)
  rw [filL_len] at hi
  rw [filL_at hi, setL_at hi]
  by_cases h : at0 xs i = 3
  · rw [if_pos h, if_pos ⟨h, hi⟩]
  · rw [if_neg h, if_neg (fun k => h k.1)]
theorem filL_step {q : Int} {xs : List Int} {k : Nat} (hk : k < xs.length) : at0 (filL q xs k) k = at0 xs k ∧ (at0 xs k = 3 → (filL q xs k).set k q = filL q xs (k + 1)) ∧ (at0 xs k ≠ 3 → filL q xs k = filL q xs (k + 1)) := by
  refine ⟨by rw [filL_at hk, if_neg (by omega)], fun h3 => ?_, fun h3 => ?_⟩
  · refine ext0 (by rw [List.length_set, filL_len, filL_len]) (fun i hi => ?_)
    rw [List.length_set, filL_len] at hi
    rw [at0_set _ (by rw [filL_len]; exact hk), filL_at hi, filL_at hi]
    by_cases e : i = k
    · subst e; rw [if_pos rfl, if_pos ⟨h3, by omega⟩]
    · rw [if_neg e]
      by_cases h : at0 xs i = 3 ∧ i < k
      · rw [if_pos h, if_pos ⟨h.1, by omega⟩]
      · rw [if_neg h, if_neg (fun h2 => h ⟨h2.1, by omega⟩)]
  · refine ext0 (by rw [filL_len, filL_len]) (fun i hi => ?_)
    rw [filL_len] at hi
    rw [filL_at hi, filL_at hi]
    by_cases h : at0 xs i = 3 ∧ i < k
    · rw [if_pos h, if_pos ⟨h.1, by omega⟩]
    · rw [if_neg h, if_neg (fun h2 => by
        by_cases e : i = k
        · subst e; exact h3 h2.1
        · exact h ⟨h2.1, by omega⟩)]
theorem bel_dn {w w1 : World} {B : Nat} (h : Below B w w1) (n : Nat) : Below B w (w1.drewN n) := ⟨h.os, h.tape, h.output, h.size, h.block⟩
/-- one element is appended within a region -/
theorem step_append_i {P : Program} {w : World} {ops : Array Oper} {o : Oper} {a : Act} {K : Act → World → Prop} {Q : Exit → Act → World → Prop} {E : Prop} (hgd : o.guard = none) (s x : Operand) (t : TypeId)
    (ho : o.op = .call { callee := .builtin .append, args := #[s, x], argTypes := #[t, t] })
    (base : Nat) (e : TypeId) (i : TypeInfo) (z : Value) (size bytes : Nat) (ht : P.underlying t = some (.slice e)) (hi : P.info? e = some i) (hz : i.zero = some z)
    (hsize : i.size = size) (hby : i.bytes = bytes) (hzs : z.cells.size = size) (hsz : 0 < size)
    (v : Value) (n : Nat) (xs : List Value) (hs : a.eval s = v) (hown : w.ownsRow base e size v n xs)
    (ad : Addr) (m c : Nat) (news : List Value) (hx : a.eval x = .slice (some ad) m c) (hl : news.length = m * size) (hnews : ∀ j u, news[j]? = some u → w.cell? (ad.add j) = some u) (h1 : ∀ u ∈ news, u.oneCell' = true)
    (h63 : n + m ≤ maxLen) (hbytes : (n + m) * bytes ≤ 140737488355328) (hbase : base ≤ w.heap.size)
    (h : ∀ v' w', w'.ownsRow base e size v' (n + m) (xs ++ news) → w.grownBy w' v.ownBlock → (v' = .slice none 0 0 ↔ v = .slice none 0 0 ∧ m = 0) → K (a.put o.dst v') w') :
    if Region.wanted o (yielded ops a.tmps) = true then Oper.wp P o a w K Q else E := by
  have hw : Region.wanted o (yielded ops a.tmps) = true := by simp [Region.wanted, hgd]
  rw [if_pos hw]
  exact wp_append_own w s x t ho base e i z size bytes ht hi hz hsize hby hzs hsz v n xs hs hown ad m c news hx hl hnews h1 h63 hbytes hbase h
section
variable {w w' : World} {g i k j : Nat} {v u : Value}
theorem pr_alloc (h : w.cell? ⟨g, i, none⟩ = some v ∧ w.cell? ⟨k, j, none⟩ = some u) (o : Obj) : (w.alloc o).cell? ⟨g, i, none⟩ = some v ∧ (w.alloc o).cell? ⟨k, j, none⟩ = some u := by
  have hb := below_box w o
  exact ⟨by rw [hb.cell (p := ⟨g, i, none⟩) (World.block_lt_of_cell? w _ h.1)]; exact h.1, by rw [hb.cell (p := ⟨k, j, none⟩) (World.block_lt_of_cell? w _ h.2)]; exact h.2⟩
theorem pr_drew (h : w.cell? ⟨g, i, none⟩ = some v ∧ w.cell? ⟨k, j, none⟩ = some u) : w.drew.cell? ⟨g, i, none⟩ = some v ∧ w.drew.cell? ⟨k, j, none⟩ = some u := h
theorem pr_grown {row : Option Nat} (h : w.cell? ⟨g, i, none⟩ = some v ∧ w.cell? ⟨k, j, none⟩ = some u) (hg : w.grownBy w' row) (h1 : some g ≠ row) (h2 : some k ≠ row) : w'.cell? ⟨g, i, none⟩ = some v ∧ w'.cell? ⟨k, j, none⟩ = some u :=
  ⟨hg.cell h.1 h1, hg.cell h.2 h2⟩
end
/-- append([]int(nil), l...) -/
theorem wpList_append_lin {ops : Array Oper} {rest : List Oper} {o : Oper} {act : Act} {Q : Exit → Act → World → Prop} {w : World} {a : Option Addr} {N c : Nat} {xs : List Int} (hgd : o.guard = none) (x : Operand)
    (ho : o.op = .call { callee := .builtin .append, args := #[.const (.slice none 0 0), x], argTypes := #[22, 22] }) (hx : act.eval x = .slice a N c) (h : LIn w a N c xs) (hN : N ≤ 1000)
    (hK : ∀ a' c' w', OwnI w' w.heap.size (.slice a' N c') xs → w.grownBy w' none → wpList Tryd.prog ops Q rest (act.put o.dst (.slice a' N c')) w') : wpList Tryd.prog ops Q (o :: rest) act w := by
  obtain ⟨i0, hi, hz0, hz1, hz2⟩ := info_parts infoI
  have hK2 : ∀ v' w', w'.ownsRow w.heap.size 3 1 v' N (flat encI xs) → w.grownBy w' none → wpList Tryd.prog ops Q rest (act.put o.dst v') w' := fun v' w' ho hg => by
    have ha : OwnI w' w.heap.size v' xs := by
      show w'.ownsRow _ _ 1 v' xs.length _
      rw [h.len]; exact ho
    obtain ⟨a', c', rfl, -, -⟩ := ha.lin
    rw [h.len] at ha ⊢
    exact hK a' c' w' ha hg
  cases a with
  | none =>
    obtain rfl : c = 0 := h.nil rfl
    obtain rfl : N = 0 := by have := h.cap; omega
    have : xs = [] := List.eq_nil_of_length_eq_zero h.len
    subst this
    refine wpList_append_own_none hgd (.const (.slice none 0 0)) x 22 ho w.heap.size 3 i0 1 Tryd.underlying22 hi (.slice none 0 0) 0 [] rfl (World.ownsRow_nil _ _ _ _) hx ?_
    exact hK2 _ _ (World.ownsRow_nil _ _ _ _) (gb_refl w none)
  | some ad =>
    have hcl : ∀ j u, (flat encI xs)[j]? = some u → w.cell? (ad.add j) = some u := fun j u hu => by
      have hj := (List.getElem?_eq_some_iff.1 hu).1
      rw [flat_length encI_len] at hj
      obtain ⟨g, o, e, hg, hc⟩ := h.rin.some (by omega)
      cases e
      exact cells_newsI hc j u hu
    refine wpList_append_own _ hgd (.const (.slice none 0 0)) x 22 ho w.heap.size 3 i0 _ 1 8 Tryd.underlying22 hi hz0 hz1 hz2 rfl (by decide) (.slice none 0 0) 0 [] rfl (World.ownsRow_nil _ _ _ _) ad N c (flat encI xs) hx ?q1 ?q2 ?q3 ?q4 ?q5 ?q6 ?_
    case q1 => rw [flat_length encI_len, h.len]
    case q2 => exact hcl
    case q3 => exact flat_oneCell encI_one _
    case q4 => unfold maxLen; omega
    case q5 => omega
    case q6 => exact Nat.le_refl _
    intro v' w' hown hg _
    rw [Nat.zero_add, List.nil_append] at hown
    exact hK2 v' w' hown hg
set_option maxRecDepth 100000 in
set_option maxHeartbeats 4000000 in
theorem fill_is (a : Option Addr) (N c : Nat) (xs : List Int) (q : Int) (w : World) (h : LIn w a N c xs) (h64 : N ≤ 64) :
    Calls Tryd.prog 51 #[.slice a N c, .int .i64 q] w (NewI w (setL q xs)) := by
  have hn := Lib.hid h.len
  have n2 := h.cap
  have n3 := h.max
  have HL := Lib.hid h
  unfold maxLen at n3
  clear h
  go_enter Tryd.func51, Tryd.ntmps51
  go_wp2_with (at_builtin; go_must (refine wpList_append_lin rfl (.tmp 7) rfl rfl HL.out (by omega) ?_; intro a2 c2 w2 own2 gr2; have OWN2 := Lib.hid own2; have GR2 := Lib.hid gr2; clear own2 gr2))
  have B2 := Lib.hid ((Below.refl w.heap.size w).grown GR2.out (Nat.le_refl _) (fun k hk => by cases hk))
  go_loopw [6] (fun i wr => ∃ k : Nat, k ≤ N ∧ i = .int .i64 k ∧ Hid (OwnI wr w.heap.size (.slice a2 N c2) (filL q xs k)) ∧ Hid (Below w.heap.size w wr)) (fun i _ => N - (intOf i).toNat)
  case atStart => exact ⟨0, Nat.zero_le _, rfl, by show OwnI _ _ _ _; rw [filL_zero]; exact OWN2.out, B2.out⟩
  case round =>
    clear OWN2 B2
    obtain ⟨k, hk, rfl, own, bel⟩ := hrel
    by_cases hlt : k < N
    · obtain ⟨s1, s2, s3⟩ := filL_step (q := q) (xs := xs) (k := k) (by rw [hn.out]; exact hlt)
      obtain ⟨g, rfl, hlen, hbg, -, -, hcm, hcell⟩ := own.out.some (by omega)
      obtain ⟨c0, f0⟩ := hcell k hlt
      rw [s1] at c0
      unfold maxLen at hcm
      obtain ⟨x, hx⟩ : ∃ x, at0 xs k = x := ⟨_, rfl⟩
      rw [hx] at c0 s2 s3
      have S2 := Lib.hid s2
      have S3 := Lib.hid s3
      clear hx s1 s2 s3 hcell
      by_cases h3 : x = 3
      · subst h3
        have st := own.out.set hlen k hlt q
        rw [S2.out rfl] at st
        have NU := Lib.hid st.1
        have NB := Lib.hid (bel.out.grown st.2 bel.out.size (fun j hj => by cases hj; exact hbg))
        clear st own bel hlen
        go_wp2
        go_roundw
        case rel => exact ⟨k + 1, by omega, by go_num, NU, NB⟩
        case measure => simp [intOf]; omega
      · have T1 : (x == 3) = false := beq_eq_false_iff_ne.2 h3
        have NU : Hid (OwnI wr w.heap.size (.slice (some ⟨g, 0, none⟩) N c2) (filL q xs (k + 1))) := by
          show OwnI _ _ _ _
          rw [← S3.out h3]; exact own.out
        clear h3 own hlen
        go_wp2
        go_roundw
        case rel => exact ⟨k + 1, by omega, by go_num, NU, bel⟩
        case measure => simp [intOf]; omega
    · obtain rfl : k = N := by omega
      have FIN : Hid (OwnI wr w.heap.size (.slice a2 k c2) (setL q xs)) := by
        show OwnI _ _ _ _
        rw [← filL_end, hn.out]; exact own.out
      go_wp2
      go_ret
      exact ⟨_, rfl, FIN.out, bel.out⟩
theorem rLowest_is (a : Option Addr) (N c : Nat) (xs : List Int) (w : World) (h : LIn w a N c xs) (h64 : N ≤ 64) :
    Calls Tryd.prog 27 #[.slice a N c] w (NewI w (setL 1 xs)) := by
  have HL := Lib.hid h
  clear h
  go_enter Tryd.func27, Tryd.ntmps27
  go_wp2_with fail
  refine (fill_is a N c xs 1 _ HL.out h64).mono ?_
  rintro e w1 ⟨v, rfl, hv, b1⟩
  have HV := Lib.hid hv
  have HB := Lib.hid b1
  clear hv b1
  go_wp2
  go_ret
  exact ⟨_, rfl, HV.out, HB.out⟩
theorem rHighest_is (a : Option Addr) (N c : Nat) (xs : List Int) (w : World) (h : LIn w a N c xs) (h64 : N ≤ 64) :
    Calls Tryd.prog 29 #[.slice a N c] w (NewI w (setL 2 xs)) := by
  have HL := Lib.hid h
  clear h
  go_enter Tryd.func29, Tryd.ntmps29
  go_wp2_with fail
  refine (fill_is a N c xs 2 _ HL.out h64).mono ?_
  rintro e w1 ⟨v, rfl, hv, b1⟩
  have HV := Lib.hid hv
  have HB := Lib.hid b1
  clear hv b1
  go_wp2
  go_ret
  exact ⟨_, rfl, HV.out, HB.out⟩
set_option maxRecDepth 100000 in
set_option maxHeartbeats 4000000 in
theorem rjoin_is (a b : Option Addr) (N c M d : Nat) (xs ys : List Int) (w : World) (h : LIn w a N c xs) (k : LIn w b M d ys) (h64 : N ≤ 64) :
    Calls Tryd.prog 33 #[.slice a N c, .slice b M d] w (NewI w (joinL xs ys)) := by
  obtain ⟨i0, hi, hz0, hz1, hz2⟩ := info_parts infoI
  have hn := Lib.hid h.len
  have hm := Lib.hid k.len
  have HL := Lib.hid (fun wr (b : Below w.heap.size w wr) => h.below b)
  have KL := Lib.hid (fun wr (b : Below w.heap.size w wr) => k.below b)
  have HL0 := Lib.hid h
  have KL0 := Lib.hid k
  have n2 := h.cap
  have n3 := h.max
  have m2 := k.cap
  have m3 := k.max
  unfold maxLen at n3 m3
  clear h k
  obtain ⟨p, hp⟩ : ∃ p, xs.all mB = p := ⟨_, rfl⟩
  obtain ⟨q, hq⟩ : ∃ q, ys.all mB = q := ⟨_, rfl⟩
  have HP := Lib.hid hp
  have HQ := Lib.hid hq
  clear hp hq
  by_cases e : N = M
  · have T1 : ((N : Int) != (N : Int)) = false := by simp
    subst e
    have e2 : Hid (areB xs ys = (p && q)) := by show _ = _; unfold areB; rw [decide_eq_true (by rw [hn.out, hm.out]), HP.out, HQ.out, Bool.true_and]
    cases p
    · have HR : Hid (areB xs ys = false) := e2.out
      go_enter Tryd.func33, Tryd.ntmps33
      go_wp2_with fail
      refine (rmasked_is a N c xs _ _ HL0.out HP.out).mono ?_; rintro e w' ⟨rfl, rfl⟩
      go_wp2
      go_ret
      exact ⟨_, rfl, by unfold joinL; rw [if_neg (by rw [HR.out]; exact Bool.false_ne_true)]; exact AggsAt.nil _ _ _ _ _, Below.refl _ _⟩
    · cases q
      · have HR : Hid (areB xs ys = false) := e2.out
        go_enter Tryd.func33, Tryd.ntmps33
        go_wp2_with fail
        refine (rmasked_is a N c xs _ _ HL0.out HP.out).mono ?_; rintro e w' ⟨rfl, rfl⟩
        go_wp2_with fail
        refine (rmasked_is b N d ys _ _ KL0.out HQ.out).mono ?_; rintro e w' ⟨rfl, rfl⟩
        go_wp2
        go_ret
        exact ⟨_, rfl, by unfold joinL; rw [if_neg (by rw [HR.out]; exact Bool.false_ne_true)]; exact AggsAt.nil _ _ _ _ _, Below.refl _ _⟩
      · have HR : Hid (areB xs ys = true) := e2.out
        go_enter Tryd.func33, Tryd.ntmps33
        go_wp2_with fail
        refine (rmasked_is a N c xs _ _ HL0.out HP.out).mono ?_; rintro e w' ⟨rfl, rfl⟩
        go_wp2_with fail
        refine (rmasked_is b N d ys _ _ KL0.out HQ.out).mono ?_; rintro e w' ⟨rfl, rfl⟩
        go_wp2
        go_loopw [5, 6] (fun v i wr => ∃ k : Nat, k ≤ N ∧ i = .int .i64 k ∧ Hid (OwnI wr w.heap.size v ((zipI orI xs ys).take k)) ∧ Hid (Below w.heap.size w wr)) (fun _ i _ => N - (intOf i).toNat)
        case atStart => exact ⟨0, Nat.zero_le _, rfl, AggsAt.nil _ _ _ _ _, Below.refl _ _⟩
        case round =>
          obtain ⟨k, hk, rfl, own, bel⟩ := hrel
          by_cases hlt : k < N
          · skip
            have hkx : k < xs.length := by rw [hn.out]; exact hlt
            obtain ⟨P, Q⟩ := areB_at HR.out hkx
            obtain ⟨g, o, rfl, hg, hc⟩ := HL0.out.rin.some (by omega)
            obtain ⟨g2, o2, rfl, hg2, hc2⟩ := KL0.out.rin.some (by rw [hm.out]; omega)
            have c0 := (bel.out.cell (p := ⟨g, o + k, none⟩) hg).trans (cells_i hc k hkx)
            have c1 := (bel.out.cell (p := ⟨g2, o2 + k, none⟩) hg2).trans (cells_i hc2 k (by rw [hm.out]; exact hlt))
            have ho := bits_or P Q
            have HZT : Hid ((zipI orI xs ys).take (k + 1) = (zipI orI xs ys).take k ++ [orI (at0 xs k) (at0 ys k)]) := by
              show _ = _
              rw [List.take_succ_eq_append_getElem (by rw [zipI_len]; exact hkx), ← at0_get (by rw [zipI_len]; exact hkx), zipI_at hkx]
            have ZL : Hid ((zipI orI xs ys).length = N) := by show _ = _; rw [zipI_len, hn.out]
            generalize at0 xs k = X at *
            generalize at0 ys k = Y at *
            generalize orI X Y = Z at *
            clear hc hc2 hkx
            have lt : ∀ q : Nat, Value.ownBlock u5 = some q → w.heap.size ≤ q := fun q hq => (World.ownsRow.lt own.out q hq).1
            have hne1 : some g ≠ Value.ownBlock u5 := fun e => by have := lt g e.symm; omega
            have hne2 : some g2 ≠ Value.ownBlock u5 := fun e => by have := lt g2 e.symm; omega
            have hTL : ((zipI orI xs ys).take k).length = k := by rw [List.length_take, ZL.out]; omega
            have own2 := Lib.hid (AggsAt.alloc (show OwnI wr.drew w.heap.size u5 _ from own.out) (.cells #[.int .i64 Z] 3))
            have hTLH := Lib.hid hTL
            have LT := Lib.hid lt
            have bel2 := Lib.hid (bel.out.drew.trans ((below_box wr.drew (.cells #[.int .i64 Z] 3)).mono bel.out.size))
            clear own hTL lt
            go_wp2_with fail
            go_region_held3 (fun w' => w'.cell? ⟨g, o + k, none⟩ = some (.int .i64 X) ∧ w'.cell? ⟨g2, o2 + k, none⟩ = some (.int .i64 Y))
              (first | exact ⟨c0, c1⟩ | exact pr_drew ⟨c0, c1⟩ | exact pr_drew (by assumption) | exact pr_alloc (by assumption) _ | exact pr_grown (by assumption) (by assumption) hne1 hne2 | go_keep)
              ((refine step_append_i (by rfl) (.tmp 28) (.tmp 38) 22 (by rfl) w.heap.size 3 i0 _ 1 8 Tryd.underlying22 hi hz0 hz1 hz2 rfl (by decide) u5 ((zipI orI xs ys).take k).length (flat encI ((zipI orI xs ys).take k)) (by rfl) own2.out _ 1 1 (encI Z) (by rfl) rfl (cell_newI _ _ rfl _ _) (encI_one _) (by rw [hTLH.out]; unfold maxLen; omega) (by rw [hTLH.out]; omega) bel2.out.size ?_; intro v' w5 hown' hgrow hnil'))
            have NU : Hid (OwnI w5 w.heap.size v' ((zipI orI xs ys).take (k + 1))) := by
              show OwnI _ _ _ _
              rw [HZT.out]
              refine AggsAt.push ?_
              rw [hTLH.out]
              have hh := hown'
              (try rw [hTLH.out] at hh)
              first
              | exact hh
              | (simp only [List.length_take] at hh; rw [ZL.out, Nat.min_eq_left (by omega)] at hh; exact hh)
            have B5 := Lib.hid (bel2.out.grown hgrow bel2.out.size (fun q hq => LT.out q hq))
            go_wp2
            go_roundw
            case rel => exact ⟨k + 1, by omega, by go_num, NU, B5⟩
            case measure => simp [intOf]; omega
          · obtain rfl : k = N := by omega
            have FIN : Hid (OwnI wr w.heap.size u5 (joinL xs ys)) := by
              show OwnI _ _ _ _
              unfold joinL
              rw [if_pos HR.out]
              have := own.out
              rw [List.take_of_length_le (by rw [zipI_len, hn.out]; exact Nat.le_refl _)] at this; exact this
            go_wp2
            go_ret
            exact ⟨_, rfl, FIN.out, bel.out⟩
  · have HR : Hid (areB xs ys = false) := by show _ = _; unfold areB; rw [decide_eq_false (by rw [hn.out, hm.out]; exact e)]; rfl
    have T1 : ((N : Int) != (M : Int)) = true := bne_iff_ne.2 (by omega)
    go_enter Tryd.func33, Tryd.ntmps33
    go_wp2
    go_ret
    exact ⟨_, rfl, by unfold joinL; rw [if_neg (by rw [HR.out]; exact Bool.false_ne_true)]; exact AggsAt.nil _ _ _ _ _, Below.refl _ _⟩
set_option maxRecDepth 100000 in
set_option maxHeartbeats 4000000 in
theorem rmeet_is (a b : Option Addr) (N c M d : Nat) (xs ys : List Int) (w : World) (h : LIn w a N c xs) (k : LIn w b M d ys) (h64 : N ≤ 64) :
    Calls Tryd.prog 31 #[.slice a N c, .slice b M d] w (MeetPost w xs ys) := by
  obtain ⟨i0, hi, hz0, hz1, hz2⟩ := info_parts infoI
  have hn := Lib.hid h.len
  have hm := Lib.hid k.len
  have HL := Lib.hid (fun wr (b : Below w.heap.size w wr) => h.below b)
  have KL := Lib.hid (fun wr (b : Below w.heap.size w wr) => k.below b)
  have HL0 := Lib.hid h
  have KL0 := Lib.hid k
  have n2 := h.cap
  have n3 := h.max
  have m2 := k.cap
  have m3 := k.max
  unfold maxLen at n3 m3
  clear h k
  obtain ⟨p, hp⟩ : ∃ p, xs.all mB = p := ⟨_, rfl⟩
  obtain ⟨q, hq⟩ : ∃ q, ys.all mB = q := ⟨_, rfl⟩
  have HP := Lib.hid hp
  have HQ := Lib.hid hq
  clear hp hq
  by_cases e : N = M
  · have T1 : ((N : Int) != (N : Int)) = false := by simp
    subst e
    have e2 : Hid (areB xs ys = (p && q)) := by show _ = _; unfold areB; rw [decide_eq_true (by rw [hn.out, hm.out]), HP.out, HQ.out, Bool.true_and]
    cases p
    · have HR : Hid (areB xs ys = false) := e2.out
      go_enter Tryd.func31, Tryd.ntmps31
      go_wp2_with fail
      refine (rmasked_is a N c xs _ _ HL0.out HP.out).mono ?_; rintro e w' ⟨rfl, rfl⟩
      go_wp2
      go_ret2
      exact ⟨_, meet_ret (meetB_are HR.out), by rw [meetB_are HR.out]; exact AggsAt.nil _ _ _ _ _, Below.refl _ _⟩
    · cases q
      · have HR : Hid (areB xs ys = false) := e2.out
        go_enter Tryd.func31, Tryd.ntmps31
        go_wp2_with fail
        refine (rmasked_is a N c xs _ _ HL0.out HP.out).mono ?_; rintro e w' ⟨rfl, rfl⟩
        go_wp2_with fail
        refine (rmasked_is b N d ys _ _ KL0.out HQ.out).mono ?_; rintro e w' ⟨rfl, rfl⟩
        go_wp2
        go_ret2
        exact ⟨_, meet_ret (meetB_are HR.out), by rw [meetB_are HR.out]; exact AggsAt.nil _ _ _ _ _, Below.refl _ _⟩
      · have HR : Hid (areB xs ys = true) := e2.out
        go_enter Tryd.func31, Tryd.ntmps31
        go_wp2_with fail
        refine (rmasked_is a N c xs _ _ HL0.out HP.out).mono ?_; rintro e w' ⟨rfl, rfl⟩
        go_wp2_with fail
        refine (rmasked_is b N d ys _ _ KL0.out HQ.out).mono ?_; rintro e w' ⟨rfl, rfl⟩
        go_wp2
        go_loopw [6, 7] (fun v i wr => ∃ k : Nat, k ≤ N ∧ i = .int .i64 k ∧ Hid (OwnI wr w.heap.size v ((zipI andI xs ys).take k)) ∧ Hid (Below w.heap.size w wr) ∧ Hid (∀ j, j < k → andI (at0 xs j) (at0 ys j) ≠ 0)) (fun _ i _ => N - (intOf i).toNat)
        case atStart => exact ⟨0, Nat.zero_le _, rfl, AggsAt.nil _ _ _ _ _, Below.refl _ _, fun j hj => absurd hj (Nat.not_lt_zero j)⟩
        case round =>
          obtain ⟨k, hk, rfl, own, bel, hd⟩ := hrel
          by_cases hlt : k < N
          · skip
            have hkx : k < xs.length := by rw [hn.out]; exact hlt
            obtain ⟨P, Q⟩ := areB_at HR.out hkx
            obtain ⟨g, o, rfl, hg, hc⟩ := HL0.out.rin.some (by omega)
            obtain ⟨g2, o2, rfl, hg2, hc2⟩ := KL0.out.rin.some (by rw [hm.out]; omega)
            have c0 := (bel.out.cell (p := ⟨g, o + k, none⟩) hg).trans (cells_i hc k hkx)
            have c1 := (bel.out.cell (p := ⟨g2, o2 + k, none⟩) hg2).trans (cells_i hc2 k (by rw [hm.out]; exact hlt))
            have ho := bits_and P Q
            have HZT : Hid ((zipI andI xs ys).take (k + 1) = (zipI andI xs ys).take k ++ [andI (at0 xs k) (at0 ys k)]) := by
              show _ = _
              rw [List.take_succ_eq_append_getElem (by rw [zipI_len]; exact hkx), ← at0_get (by rw [zipI_len]; exact hkx), zipI_at hkx]
            have ZL : Hid ((zipI andI xs ys).length = N) := by show _ = _; rw [zipI_len, hn.out]
            have NO := Lib.hid (fun h => meetB_no (a := xs) (b := ys) hkx h)
            have YES : Hid (andI (at0 xs k) (at0 ys k) ≠ 0 → ∀ j, j < k + 1 → andI (at0 xs j) (at0 ys j) ≠ 0) := fun h j hj => by
              by_cases e : j = k
              · subst e; exact h
              · exact hd.out j (by omega)
            clear hd
            generalize at0 xs k = X at *
            generalize at0 ys k = Y at *
            generalize andI X Y = Z at *
            clear hc hc2 hkx
            by_cases h0 : Z = 0
            · have no := Lib.hid (NO.out h0)
              have T2 : (Z == 0) = true := by rw [h0]; rfl
              clear NO YES HZT
              go_wp2
              go_quiet (fail)
              go_wp2
              go_ret2
              exact ⟨_, meet_ret no.out, by rw [no.out]; exact AggsAt.nil _ _ _ _ _, bel_dn bel.out _⟩
            · have T2 : (Z == 0) = false := beq_eq_false_iff_ne.2 h0
              have yes := Lib.hid (YES.out h0)
              clear NO YES h0
              go_wp2
              go_quiet (fail)
              have own3 : Hid (OwnI (wr.drewN nq) w.heap.size u6 ((zipI andI xs ys).take k)) := own.out
              have bel3 := Lib.hid (bel_dn bel.out nq)
              have d0 : (wr.drewN nq).cell? ⟨g, o + k, none⟩ = some (.int .i64 X) := c0
              have d1 : (wr.drewN nq).cell? ⟨g2, o2 + k, none⟩ = some (.int .i64 Y) := c1
              clear own bel c0 c1
              obtain ⟨wq, hwq⟩ : ∃ q, wr.drewN nq = q := ⟨_, rfl⟩
              rw [hwq] at own3 bel3 d0 d1 ⊢
              have own := own3
              have bel := bel3
              have c0 := d0
              have c1 := d1
              clear own3 bel3 d0 d1 hwq
              have lt : ∀ q : Nat, Value.ownBlock u6 = some q → w.heap.size ≤ q := fun q hq => (World.ownsRow.lt own.out q hq).1
              have hne1 : some g ≠ Value.ownBlock u6 := fun e => by have := lt g e.symm; omega
              have hne2 : some g2 ≠ Value.ownBlock u6 := fun e => by have := lt g2 e.symm; omega
              have hTL : ((zipI andI xs ys).take k).length = k := by rw [List.length_take, ZL.out]; omega
              have own2 := Lib.hid (AggsAt.alloc (show OwnI wq.drew w.heap.size u6 _ from own.out) (.cells #[.int .i64 Z] 3))
              have hTLH := Lib.hid hTL
              have LT := Lib.hid lt
              have bel2 := Lib.hid (bel.out.drew.trans ((below_box wq.drew (.cells #[.int .i64 Z] 3)).mono bel.out.size))
              clear own hTL lt
              go_wp2_with fail
              go_region_held3 (fun w' => w'.cell? ⟨g, o + k, none⟩ = some (.int .i64 X) ∧ w'.cell? ⟨g2, o2 + k, none⟩ = some (.int .i64 Y))
                (first | exact ⟨c0, c1⟩ | exact pr_drew ⟨c0, c1⟩ | exact pr_drew (by assumption) | exact pr_alloc (by assumption) _ | exact pr_grown (by assumption) (by assumption) hne1 hne2 | go_keep)
                ((refine step_append_i (by rfl) (.tmp 39) (.tmp 49) 22 (by rfl) w.heap.size 3 i0 _ 1 8 Tryd.underlying22 hi hz0 hz1 hz2 rfl (by decide) u6 ((zipI andI xs ys).take k).length (flat encI ((zipI andI xs ys).take k)) (by rfl) own2.out _ 1 1 (encI Z) (by rfl) rfl (cell_newI _ _ rfl _ _) (encI_one _) (by rw [hTLH.out]; unfold maxLen; omega) (by rw [hTLH.out]; omega) bel2.out.size ?_; intro v' w5 hown' hgrow hnil'))
              have NU : Hid (OwnI w5 w.heap.size v' ((zipI andI xs ys).take (k + 1))) := by
                show OwnI _ _ _ _
                rw [HZT.out]
                refine AggsAt.push ?_
                rw [hTLH.out]
                have hh := hown'
                (try rw [hTLH.out] at hh)
                first
                | exact hh
                | (simp only [List.length_take] at hh; rw [ZL.out, Nat.min_eq_left (by omega)] at hh; exact hh)
              have B5 := Lib.hid (bel2.out.grown hgrow bel2.out.size (fun q hq => LT.out q hq))
              go_wp2
              go_roundw
              case rel => exact ⟨k + 1, by omega, by go_num, NU, B5, yes⟩
              case measure => simp [intOf]; omega
          · obtain rfl : k = N := by omega
            have FM := Lib.hid (meetB_iff.2 ⟨HR.out, fun i hi => hd.out i (by rw [hn.out] at hi; exact hi)⟩)
            have FIN : Hid (OwnI wr w.heap.size u6 (zipI andI xs ys)) := by
              show OwnI _ _ _ _
              have := own.out
              rw [List.take_of_length_le (by rw [zipI_len, hn.out]; exact Nat.le_refl _)] at this; exact this
            go_wp2
            go_ret2
            exact ⟨_, meet_ret FM.out, by rw [FM.out]; exact FIN.out, bel.out⟩
  · have HR : Hid (areB xs ys = false) := by show _ = _; unfold areB; rw [decide_eq_false (by rw [hn.out, hm.out]; exact e)]; rfl
    have T1 : ((N : Int) != (M : Int)) = true := bne_iff_ne.2 (by omega)
    go_enter Tryd.func31, Tryd.ntmps31
    go_wp2
    go_ret2
    exact ⟨_, meet_ret (meetB_are HR.out), by rw [meetB_are HR.out]; exact AggsAt.nil _ _ _ _ _, Below.refl _ _⟩
set_option maxRecDepth 100000 in
set_option maxHeartbeats 4000000 in
theorem rfiner_is (a b : Option Addr) (N c M d : Nat) (xs ys : List Int) (w : World) (h : LIn w a N c xs) (k : LIn w b M d ys) (h64 : N ≤ 64) :
    Calls Tryd.prog 35 #[.slice a N c, .slice b M d] w (fun e w' => e = .returned (.bool (finB xs ys)) ∧ Below w.heap.size w w') := by
  obtain ⟨i0, hi, hz0, hz1, hz2⟩ := info_parts infoI
  have hn := Lib.hid h.len
  have hm := Lib.hid k.len
  have HL := Lib.hid (fun wr (b : Below w.heap.size w wr) => h.below b)
  have KL := Lib.hid (fun wr (b : Below w.heap.size w wr) => k.below b)
  have HL0 := Lib.hid h
  have KL0 := Lib.hid k
  have n2 := h.cap
  have n3 := h.max
  have m2 := k.cap
  have m3 := k.max
  unfold maxLen at n3 m3
  clear h k
  obtain ⟨p, hp⟩ : ∃ p, xs.all mB = p := ⟨_, rfl⟩
  obtain ⟨q, hq⟩ : ∃ q, ys.all mB = q := ⟨_, rfl⟩
  have HP := Lib.hid hp
  have HQ := Lib.hid hq
  clear hp hq
  by_cases e : N = M
  · have T1 : ((N : Int) != (N : Int)) = false := by simp
    subst e
    have e2 : Hid (areB xs ys = (p && q)) := by show _ = _; unfold areB; rw [decide_eq_true (by rw [hn.out, hm.out]), HP.out, HQ.out, Bool.true_and]
    cases p
    · have HR : Hid (areB xs ys = false) := e2.out
      go_enter Tryd.func35, Tryd.ntmps35
      go_wp2_with fail
      refine (rmasked_is a N c xs _ _ HL0.out HP.out).mono ?_; rintro e w' ⟨rfl, rfl⟩
      go_wp2
      go_ret
      exact ⟨ret_bool (finB_are HR.out).symm, Below.refl _ _⟩
    · cases q
      · have HR : Hid (areB xs ys = false) := e2.out
        go_enter Tryd.func35, Tryd.ntmps35
        go_wp2_with fail
        refine (rmasked_is a N c xs _ _ HL0.out HP.out).mono ?_; rintro e w' ⟨rfl, rfl⟩
        go_wp2_with fail
        refine (rmasked_is b N d ys _ _ KL0.out HQ.out).mono ?_; rintro e w' ⟨rfl, rfl⟩
        go_wp2
        go_ret
        exact ⟨ret_bool (finB_are HR.out).symm, Below.refl _ _⟩
      · have HR : Hid (areB xs ys = true) := e2.out
        go_enter Tryd.func35, Tryd.ntmps35
        go_wp2_with fail
        refine (rmasked_is a N c xs _ _ HL0.out HP.out).mono ?_; rintro e w' ⟨rfl, rfl⟩
        go_wp2_with fail
        refine (rmasked_is b N d ys _ _ KL0.out HQ.out).mono ?_; rintro e w' ⟨rfl, rfl⟩
        go_wp2
        go_loopw [5] (fun i wr => ∃ k : Nat, k ≤ N ∧ i = .int .i64 k ∧ Hid (∀ j, j < k → andI (at0 xs j) (at0 ys j) = at0 xs j) ∧ Hid (∃ n, wr = w.drewN n)) (fun i _ => N - (intOf i).toNat)
        case atStart => exact ⟨0, Nat.zero_le _, rfl, fun j hj => absurd hj (Nat.not_lt_zero j), 0, rfl⟩
        case round =>
          obtain ⟨k, hk, rfl, hd, hdr⟩ := hrel
          obtain ⟨nn, rfl⟩ := hdr.out
          by_cases hlt : k < N
          · have hkx : k < xs.length := by rw [hn.out]; exact hlt
            obtain ⟨P, Q⟩ := areB_at HR.out hkx
            obtain ⟨g, o, rfl, hg, hc⟩ := HL0.out.rin.some (by omega)
            obtain ⟨g2, o2, rfl, hg2, hc2⟩ := KL0.out.rin.some (by rw [hm.out]; omega)
            have c0 := cells_i hc k hkx
            have c1 := cells_i hc2 k (by rw [hm.out]; exact hlt)
            have ho := bits_and P Q
            have NO := Lib.hid (fun h => finB_no (a := xs) (b := ys) (i := k) hkx h)
            have YES : Hid (andI (at0 xs k) (at0 ys k) = at0 xs k → ∀ j, j < k + 1 → andI (at0 xs j) (at0 ys j) = at0 xs j) := fun h j hj => by
              by_cases e : j = k
              · subst e; exact h
              · exact hd.out j (by omega)
            clear hd
            generalize at0 xs k = X at *
            generalize at0 ys k = Y at *
            generalize andI X Y = Z at *
            clear hc hc2 hkx
            by_cases h0 : Z = X
            · have T2 : (Z != X) = false := by simp [h0]
              have yes := Lib.hid (YES.out h0)
              clear NO YES h0
              go_wp2
              go_quiet (fail)
              go_wp2
              go_roundw
              case rel => exact ⟨k + 1, by omega, by go_num, yes, _, by first | rfl | exact World.drewN_drewN _ _ _⟩
              case measure => simp [intOf]; omega
            · have T2 : (Z != X) = true := bne_iff_ne.2 h0
              have no := Lib.hid (NO.out h0)
              clear NO YES h0
              go_wp2
              go_quiet (fail)
              go_wp2
              go_ret
              exact ⟨ret_bool no.out.symm, bel_dn (below_drewN w nn) _⟩
          · obtain rfl : k = N := by omega
            have yes := Lib.hid (finB_iff.2 ⟨HR.out, fun i hi => hd.out i (by rw [hn.out] at hi; exact hi)⟩)
            go_wp2
            go_ret
            exact ⟨ret_bool yes.out.symm, below_drewN w nn⟩
  · have HR : Hid (areB xs ys = false) := by show _ = _; unfold areB; rw [decide_eq_false (by rw [hn.out, hm.out]; exact e)]; rfl
    have T1 : ((N : Int) != (M : Int)) = true := bne_iff_ne.2 (by omega)
    go_enter Tryd.func35, Tryd.ntmps35
    go_wp2
    go_ret
    exact ⟨ret_bool (finB_are HR.out).symm, Below.refl _ _⟩
set_option maxRecDepth 100000 in
set_option maxHeartbeats 4000000 in
theorem ragrees_is (a b : Option Addr) (N c M d : Nat) (xs ys : List Int) (w : World) (h : LIn w a N c xs) (k : LIn w b M d ys) :
    Calls Tryd.prog 37 #[.slice a N c, .slice b M d] w fun e w' => e = .returned (.bool (agrB xs ys)) ∧ Below w.heap.size w w' := by
  have hn := Lib.hid h.len
  have hm := Lib.hid k.len
  have HL0 := Lib.hid h
  have KL0 := Lib.hid k
  have n2 := h.cap
  have n3 := h.max
  have m2 := k.cap
  have m3 := k.max
  unfold maxLen at n3 m3
  clear h k
  by_cases e : N = M
  · have T1 : ((N : Int) != (N : Int)) = false := by simp
    subst e
    obtain ⟨q, hq⟩ : ∃ q, ys.all mB = q := ⟨_, rfl⟩
    have HQ := Lib.hid hq
    clear hq
    cases q
    · have HR : Hid (agrB xs ys = false) := by
        show _ = _
        rw [Bool.eq_false_iff]; intro h
        have := (agrB_iff.1 h).2.1
        rw [HQ.out] at this; cases this
      go_enter Tryd.func37, Tryd.ntmps37
      go_wp2_with fail
      refine (rmasked_is b N d ys _ _ KL0.out HQ.out).mono ?_; rintro e w' ⟨rfl, rfl⟩
      go_wp2
      go_ret
      exact ⟨ret_bool HR.out.symm, Below.refl _ _⟩
    · go_enter Tryd.func37, Tryd.ntmps37
      go_wp2_with fail
      refine (rmasked_is b N d ys _ _ KL0.out HQ.out).mono ?_; rintro e w' ⟨rfl, rfl⟩
      go_wp2
      go_loopw [5] (fun i wr => ∃ k : Nat, k ≤ N ∧ i = .int .i64 k ∧ Hid (∀ j, j < k → (1 ≤ at0 xs j ∧ at0 xs j ≤ 2) ∧ andI (at0 xs j) (at0 ys j) = at0 xs j) ∧ Hid (∃ n, wr = w.drewN n)) (fun i _ => N - (intOf i).toNat)
      case atStart => exact ⟨0, Nat.zero_le _, rfl, fun j hj => absurd hj (Nat.not_lt_zero j), 0, rfl⟩
      case round =>
        obtain ⟨k, hk, rfl, hd, hdr⟩ := hrel
        obtain ⟨nn, rfl⟩ := hdr.out
        by_cases hlt : k < N
        · have hkx : k < xs.length := by rw [hn.out]; exact hlt
          have Q := mB_iff.1 (all_iff.1 HQ.out k (by rw [hm.out]; exact hlt))
          obtain ⟨g, o, rfl, hg, hc⟩ := HL0.out.rin.some (by omega)
          obtain ⟨g2, o2, rfl, hg2, hc2⟩ := KL0.out.rin.some (by rw [hm.out]; omega)
          have c0 := cells_i hc k hkx
          have c1 := cells_i hc2 k (by rw [hm.out]; exact hlt)
          have NO : Hid (¬ ((1 ≤ at0 xs k ∧ at0 xs k ≤ 2) ∧ andI (at0 xs k) (at0 ys k) = at0 xs k) → agrB xs ys = false) := fun h => by
            rw [Bool.eq_false_iff]; intro h2
            exact h ((agrB_iff.1 h2).2.2 k hkx)
          have YES : Hid ((1 ≤ at0 xs k ∧ at0 xs k ≤ 2) ∧ andI (at0 xs k) (at0 ys k) = at0 xs k → ∀ j, j < k + 1 → (1 ≤ at0 xs j ∧ at0 xs j ≤ 2) ∧ andI (at0 xs j) (at0 ys j) = at0 xs j) := fun h j hj => by
            by_cases e : j = k
            · subst e; exact h
            · exact hd.out j (by omega)
          clear hd
          generalize at0 xs k = X at *
          generalize at0 ys k = Y at *
          clear hc hc2 hkx
          by_cases x1 : X = 1
          · subst x1
            have ho := bits_and Q (show (1 : Int) ≤ 1 ∧ (1 : Int) ≤ 3 by omega)
            have hz : andI Y 1 = 0 ∨ andI Y 1 = 1 := by
              rcases three Q with rfl | rfl | rfl <;> decide
            have hcm := andI_comm Y 1
            obtain ⟨Z, hZ⟩ : ∃ z, andI Y 1 = z := ⟨_, rfl⟩
            rw [hZ] at ho hz hcm
            have HCM := Lib.hid hcm
            clear hZ hcm
            rcases hz with h0 | h0
            · subst h0
              have no := Lib.hid (NO.out (fun h => by have := h.2; rw [← HCM.out] at this; omega))
              clear NO YES
              go_wp2
              go_quiet (fail)
              go_wp2
              go_ret
              exact ⟨ret_bool no.out.symm, bel_dn (below_drewN w nn) _⟩
            · subst h0
              have yes := Lib.hid (YES.out ⟨by omega, HCM.out.symm⟩)
              clear NO YES
              go_wp2
              go_quiet (fail)
              go_wp2
              go_roundw
              case rel => exact ⟨k + 1, by omega, by go_num, yes, _, by first | rfl | exact World.drewN_drewN _ _ _⟩
              case measure => simp [intOf]; omega
          · skip
            by_cases x2 : X = 2
            · subst x2
              have ho := bits_and Q (show (1 : Int) ≤ 2 ∧ (2 : Int) ≤ 3 by omega)
              have hz : andI Y 2 = 0 ∨ andI Y 2 = 2 := by
                rcases three Q with rfl | rfl | rfl <;> decide
              have hcm := andI_comm Y 2
              obtain ⟨Z, hZ⟩ : ∃ z, andI Y 2 = z := ⟨_, rfl⟩
              rw [hZ] at ho hz hcm
              have HCM := Lib.hid hcm
              clear hZ hcm
              rcases hz with h0 | h0
              · subst h0
                have no := Lib.hid (NO.out (fun h => by have := h.2; rw [← HCM.out] at this; omega))
                clear NO YES
                go_wp2
                go_quiet (fail)
                go_wp2
                go_ret
                exact ⟨ret_bool no.out.symm, bel_dn (below_drewN w nn) _⟩
              · subst h0
                have yes := Lib.hid (YES.out ⟨by omega, HCM.out.symm⟩)
                clear NO YES
                go_wp2
                go_quiet (fail)
                go_wp2
                go_roundw
                case rel => exact ⟨k + 1, by omega, by go_num, yes, _, by first | rfl | exact World.drewN_drewN _ _ _⟩
                case measure => simp [intOf]; omega
            · have T2 : (X != 1) = true := bne_iff_ne.2 x1
              have T3 : (X != 2) = true := bne_iff_ne.2 x2
              have no := Lib.hid (NO.out (fun h => by omega))
              clear NO YES
              go_wp2
              go_quiet (fail)
              go_wp2
              go_ret
              exact ⟨ret_bool no.out.symm, bel_dn (below_drewN w nn) _⟩
        · obtain rfl : k = N := by omega
          have yes := Lib.hid (agrB_iff.2 ⟨hn.out.trans hm.out.symm, HQ.out, fun i hi => hd.out i (by rw [hn.out] at hi; exact hi)⟩)
          go_wp2
          go_ret
          exact ⟨ret_bool yes.out.symm, below_drewN w nn⟩
  · have HR : Hid (agrB xs ys = false) := by
      show _ = _
      rw [Bool.eq_false_iff]; intro h
      have := (agrB_iff.1 h).1
      rw [hn.out, hm.out] at this; exact e this
    have T1 : ((N : Int) != (M : Int)) = true := bne_iff_ne.2 (by omega)
    go_enter Tryd.func37, Tryd.ntmps37
    go_wp2
    go_ret
    exact ⟨ret_bool HR.out.symm, Below.refl _ _⟩
end Go.Proofs.YtpobgdolhdlmeaaDoor.msk
