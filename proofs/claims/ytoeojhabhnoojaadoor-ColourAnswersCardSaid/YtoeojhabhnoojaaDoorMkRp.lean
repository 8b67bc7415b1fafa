/- The walks of layer 6's reference: Check, State. They compute what the plain facts say. -/
import Derived.Test.YtoeojhabhnoojaaDoorMkKp
import Derived.Test.YtoeojhabhnoojaaDoorNetQ
namespace Go.Proofs.YtoeojhabhnoojaaDoor.msk
open Go.RowKit lex aggs kit net deck

theorem hB_most {f mo : Int} (h : f = 1 ∧ mo = 3 ∨ f = 2 ∧ mo = 2) (x : Int) : hB f x = decide (1 ≤ x ∧ x ≤ mo) := by
  rcases h with ⟨rfl, rfl⟩ | ⟨rfl, rfl⟩ <;> rfl
set_option maxRecDepth 100000 in
set_option maxHeartbeats 2000000 in
theorem rpos_is (a b l : Option Addr) (N c M d L k : Nat) (ns : List Nd) (ds : List Dv) (xs : List Int) (f mo r : Int) (w : World) (h : NetIn w a b N c M d ns ds) (hx : LIn w l L k xs) (hf : f = 1 ∧ mo = 3 ∨ f = 2 ∧ mo = 2) (hr : chkM f ns ds xs = r) :
    Calls Tryd.prog 54 #[.agg #[.slice a N c, .slice b M d], .slice l L k, .int .i64 mo] w fun e w' => e = .returned (.int .i64 r) ∧ Below w.heap.size w w' := by
  subst hr
  have bx := below_box w (.cells #[.slice a N c, .slice b M d] 26)
  have NT := NtAt.new w (.slice a N c) (.slice b M d) 26
  obtain ⟨c0, c1, -⟩ := NT
  have BX := Lib.hid bx
  have H2 := Lib.hid (h.below bx)
  have HLX := Lib.hid (fun wr (b : Below w.heap.size w wr) => hx.below b)
  have hn := Lib.hid hx.len
  have hm := Lib.hid h.dlen
  have n2 := hx.cap
  have n3 := hx.max
  have m2 := h.dcap
  have m3 := h.dmax
  unfold maxLen at n3 m3
  have HB := Lib.hid (hB_most hf)
  have hmo : 2 ≤ mo ∧ mo ≤ 3 := by omega
  obtain ⟨E, hE⟩ : ∃ E, chk ns ds = E := ⟨_, rfl⟩
  have HE := Lib.hid hE
  clear bx h hx hE hf
  by_cases e0 : E = 0
  · subst e0
    have hv : Hid (chkM f ns ds xs = if xs.length = ds.length then if xs.all (hB f) = true then 0 else 10 else 9) := by show _ = _; unfold chkM; rw [if_pos HE.out]
    by_cases e1 : L = M
    · have hv2 : Hid (chkM f ns ds xs = if xs.all (hB f) = true then 0 else 10) := by show _ = _; rw [hv.out, if_pos (by rw [hn.out, hm.out, e1])]
      subst e1
      clear hv
      go_enter Tryd.func54, Tryd.ntmps54
      go_wp2_with fail
      refine (rcheck_is a b N c L d ns ds 0 _ H2.out HE.out).mono ?_
      rintro e w2 ⟨rfl, b2⟩
      have B2 := Lib.hid (BX.out.trans (b2.mono (by simp)))
      obtain ⟨k0, k1⟩ : w2.cell? ⟨w.heap.size, 0, none⟩ = some (.slice a N c) ∧ w2.cell? ⟨w.heap.size, 1, none⟩ = some (.slice b L d) :=
        ⟨(b2.cell (p := ⟨w.heap.size, 0, none⟩) (by simp)).trans c0, (b2.cell (p := ⟨w.heap.size, 1, none⟩) (by simp)).trans c1⟩
      have HL := Lib.hid (HLX.out _ B2.out)
      clear b2 c0 c1
      go_wp2
      clear k0 k1
      go_loop [8] (fun i => ∃ k : Nat, k ≤ L ∧ i = .int .i64 k ∧ Hid (∀ j, j < k → hB f (at0 xs j) = true)) (fun i => L - (intOf i).toNat)
      case atStart => exact ⟨0, Nat.zero_le _, rfl, fun j hj => absurd hj (Nat.not_lt_zero j)⟩
      case round =>
        obtain ⟨q, hq, rfl, hd⟩ := hrel
        by_cases hlt : q < L
        · have hqx : q < xs.length := by rw [hn.out]; exact hlt
          obtain ⟨g, o, rfl, hg, hc⟩ := HL.out.rin.some (by omega)
          have c0 := cells_i hc q hqx
          have NO := Lib.hid (fun h => all_no (p := hB f) hqx h)
          have YES : Hid (hB f (at0 xs q) = true → ∀ j, j < q + 1 → hB f (at0 xs j) = true) := fun h j hj => by
            by_cases e : j = q
            · subst e; exact h
            · exact hd.out j (by omega)
          generalize at0 xs q = x at *
          clear hc hg hd hqx
          by_cases h1 : x < 1
          · have no := Lib.hid (NO.out (by rw [HB.out]; exact decide_eq_false (by omega)))
            go_wp2
            go_ret
            exact ⟨ret_int (by rw [hv2.out, no.out]; rfl), B2.out⟩
          · by_cases h3 : mo < x
            · have no := Lib.hid (NO.out (by rw [HB.out]; exact decide_eq_false (by omega)))
              go_wp2
              go_ret
              exact ⟨ret_int (by rw [hv2.out, no.out]; rfl), B2.out⟩
            · have yes := Lib.hid (YES.out (by rw [HB.out]; exact decide_eq_true (by omega)))
              go_wp2
              go_round
              case rel => exact ⟨q + 1, by omega, by go_num, yes⟩
              case measure => simp [intOf]; omega
        · obtain rfl : q = L := by omega
          have yes := Lib.hid ((all_iff (p := hB f) (l := xs)).2 (fun i hi => hd.out i (by rw [hn.out] at hi; exact hi)))
          go_wp2
          go_ret
          exact ⟨ret_int (by rw [hv2.out, if_pos yes.out]), B2.out⟩
    · have hv2 : Hid (chkM f ns ds xs = 9) := by show _ = _; rw [hv.out, if_neg (by rw [hn.out, hm.out]; exact e1)]
      have T1 : ((L : Int) != (M : Int)) = true := bne_iff_ne.2 (by omega)
      clear hv
      go_enter Tryd.func54, Tryd.ntmps54
      go_wp2_with fail
      refine (rcheck_is a b N c M d ns ds 0 _ H2.out HE.out).mono ?_
      rintro e w2 ⟨rfl, b2⟩
      have B2 := Lib.hid (BX.out.trans (b2.mono (by simp)))
      obtain ⟨k0, k1⟩ : w2.cell? ⟨w.heap.size, 0, none⟩ = some (.slice a N c) ∧ w2.cell? ⟨w.heap.size, 1, none⟩ = some (.slice b M d) :=
        ⟨(b2.cell (p := ⟨w.heap.size, 0, none⟩) (by simp)).trans c0, (b2.cell (p := ⟨w.heap.size, 1, none⟩) (by simp)).trans c1⟩
      clear b2 c0 c1
      go_wp2
      go_ret
      exact ⟨ret_int (by rw [hv2.out]), B2.out⟩
  · have hv : Hid (chkM f ns ds xs = E) := by show _ = _; unfold chkM; rw [HE.out, if_neg e0]
    have T1 : (E != 0) = true := bne_iff_ne.2 e0
    go_enter Tryd.func54, Tryd.ntmps54
    go_wp2_with fail
    refine (rcheck_is a b N c M d ns ds E _ H2.out HE.out).mono ?_
    rintro e w2 ⟨rfl, b2⟩
    have B2 := Lib.hid (BX.out.trans (b2.mono (by simp)))
    clear b2 c0 c1
    go_wp2
    go_ret
    exact ⟨ret_int (by rw [hv.out]), B2.out⟩
theorem rCheck_is (a b l : Option Addr) (N c M d L k : Nat) (ns : List Nd) (ds : List Dv) (xs : List Int) (r : Int) (w : World) (h : NetIn w a b N c M d ns ds) (hx : LIn w l L k xs) (hr : chkM 1 ns ds xs = r) :
    Calls Tryd.prog 45 #[.agg #[.slice a N c, .slice b M d], .slice l L k] w fun e w' => e = .returned (.int .i64 r) ∧ Below w.heap.size w w' := by
  have bx := below_box w (.cells #[.slice a N c, .slice b M d] 26)
  have CC := Lib.hid (rpos_is a b l N c M d L k ns ds xs 1 3 r _ (h.below bx) (hx.below bx) (.inl ⟨rfl, rfl⟩) hr)
  have BX := Lib.hid bx
  clear h hx hr bx
  go_enter Tryd.func45, Tryd.ntmps45
  go_wp2_with fail
  refine CC.out.mono ?_; rintro e w2 ⟨rfl, b2⟩
  have B2 := Lib.hid (BX.out.trans (b2.mono (by simp)))
  clear b2
  go_wp2
  go_ret
  exact ⟨rfl, B2.out⟩
theorem rState_is (a b l : Option Addr) (N c M d L k : Nat) (ns : List Nd) (ds : List Dv) (xs : List Int) (r : Int) (w : World) (h : NetIn w a b N c M d ns ds) (hx : LIn w l L k xs) (hr : chkM 2 ns ds xs = r) :
    Calls Tryd.prog 33 #[.agg #[.slice a N c, .slice b M d], .slice l L k] w fun e w' => e = .returned (.int .i64 r) ∧ Below w.heap.size w w' := by
  have bx := below_box w (.cells #[.slice a N c, .slice b M d] 26)
  have CC := Lib.hid (rpos_is a b l N c M d L k ns ds xs 2 2 r _ (h.below bx) (hx.below bx) (.inr ⟨rfl, rfl⟩) hr)
  have BX := Lib.hid bx
  clear h hx hr bx
  go_enter Tryd.func33, Tryd.ntmps33
  go_wp2_with fail
  refine CC.out.mono ?_; rintro e w2 ⟨rfl, b2⟩
  have B2 := Lib.hid (BX.out.trans (b2.mono (by simp)))
  clear b2
  go_wp2
  go_ret
  exact ⟨rfl, B2.out⟩
end Go.Proofs.YtoeojhabhnoojaaDoor.msk
