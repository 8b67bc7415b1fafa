/- The walks of layer 6: slices.Clone at ints, Lowest, Highest, areMasks, Meet, Join, Finer, Agrees. Conditions: the table 'flags' holds what its text lays; at most 64 elements. -/
import Derived.Test.YtoeojhabhnoojaaDoorMkB
import Derived.Test.YtoeojhabhnoojaaDoorDeck
import Derived.Deep.OwnRows
import Derived.BigGuardPart
namespace Go.Proofs.YtoeojhabhnoojaaDoor.msk
open Go.RowKit lex aggs kit net deck

theorem gb_bl {w w' : World} (hb : Below w.heap.size w w') (row : Option Nat) : w.grownBy w' row := ⟨hb.os, hb.tape, hb.output, hb.size, fun k hk _ => hb.block k hk⟩
theorem cells_newsI {g o : Nat} {w : World} {xs : List Int} (h : CellsAt encI 1 w g o xs) : ∀ j u, (flat encI xs)[j]? = some u → w.cell? ((⟨g, o, none⟩ : Addr).add j) = some u := by
  intro j u hu
  rw [Go.WideShapes.add_plain]
  exact h j u hu
theorem OwnI.some {w : World} {base : Nat} {a : Option Addr} {N c : Nat} {xs : List Int} (h : OwnI w base (.slice a N c) xs) (hp : 0 < N) :
    ∃ g, a = Option.some ⟨g, 0, none⟩ ∧ xs.length = N ∧ base ≤ g ∧ g < w.heap.size ∧ N ≤ c ∧ c ≤ maxLen ∧ ∀ i, i < N → w.cell? ⟨g, i, none⟩ = Option.some (.int .i64 (at0 xs i)) ∧ w.frozen? ⟨g, i, none⟩ = false := by
  rcases AggsAt.shape h encI_len with ⟨e, rfl⟩ | ⟨g, cap, e, q1, q2, q3, q4, q5, q6⟩
  · injection e with e1 e2 e3; omega
  · injection e with e1 e2 e3
    subst e1 e2 e3
    refine ⟨g, rfl, rfl, q1, q2, q3, q4, fun i hi => ⟨?_, q6 i⟩⟩
    have := cells_i q5 i hi
    rwa [Nat.zero_add] at this
theorem LIn.grown {w w' : World} {row : Option Nat} {a : Option Addr} {N c : Nat} {xs : List Int} (h : LIn w a N c xs) (hg : w.grownBy w' row) (hr : 0 < N → ∀ p, a = Option.some p → Option.some p.block ≠ row) : LIn w' a N c xs := by
  refine ⟨h.len, h.cap, h.max, ?_, h.nil⟩
  by_cases hp : 0 < N
  · obtain ⟨b, off, h1, h2, h3⟩ := h.rin.some (by rw [h.len]; exact hp)
    exact .inr ⟨b, off, h1, Nat.lt_of_lt_of_le h2 hg.size, fun i u hu => hg.cell (h3 i u hu) (show Option.some b ≠ row from hr hp _ h1)⟩
  · exact .inl (List.eq_nil_of_length_eq_zero (by rw [h.len]; omega))
theorem encI_set (x z : Int) : encI z = (encI x).set 0 (.int .i64 z) := rfl
theorem OwnI.set {w : World} {base g N c : Nat} {xs : List Int} (h : OwnI w base (.slice (Option.some ⟨g, 0, none⟩) N c) xs) (hN : xs.length = N) (j : Nat) (hj : j < N) (z : Int) :
    OwnI (w.setCell ⟨g, j, none⟩ (.int .i64 z)) base (.slice (Option.some ⟨g, 0, none⟩) N c) (xs.set j z) ∧ w.grownBy (w.setCell ⟨g, j, none⟩ (.int .i64 z)) (Option.some g) := by
  have := AggsAt.set hN h encI_len j (by omega) 0 (by decide) z (.int .i64 z) (encI_set _ _)
  rwa [Nat.mul_one, Nat.add_zero] at this
theorem at0_set {l : List Int} {j : Nat} (z : Int) (hj : j < l.length) (i : Nat) : at0 (l.set j z) i = if i = j then z else at0 l i := by
  unfold at0
  rw [List.getD_eq_getElem?_getD, List.getElem?_set]
  by_cases e : i = j
  · subst e; simp [hj]
  · rw [if_neg (fun h => e h.symm), if_neg e, List.getD_eq_getElem?_getD]
set_option maxRecDepth 100000 in
set_option maxHeartbeats 4000000 in
theorem clone_is (a : Option Addr) (N c : Nat) (xs : List Int) (w : World) (h : LIn w a N c xs) (h64 : N ≤ 64) :
    Calls Tryd.prog 68 #[.slice a N c] w (NewI w xs) := by
  obtain ⟨i0, hi, hz0, hz1, hz2⟩ := info_parts infoI
  have hn := h.len
  have n2 := h.cap
  have n3 := h.max
  unfold maxLen at n3
  have hcl : ∀ x, a = some x → ∀ j u, (flat encI xs)[j]? = some u → w.cell? (x.add j) = some u := fun x hx j u hu => by
    have hj := (List.getElem?_eq_some_iff.1 hu).1
    rw [flat_length encI_len] at hj
    obtain ⟨g, o, e, hg, hc⟩ := h.rin.some (by omega)
    rw [hx] at e; cases e
    exact cells_newsI hc j u hu
  have hnil : a = none → xs = [] := fun ha => by
    rcases h.rin with e | ⟨_, _, e, _⟩
    · exact e
    · rw [ha] at e; cases e
  rcases a with _ | x
  · obtain rfl := hnil rfl
    clear h hn hcl hnil
    have q22 : ∀ (w : World) (a : Option Addr) (n c n' c' : Nat), (binOp .eql 22 (.slice a n c) (.slice none n' c')).run Tryd.prog w = .ok (.bool a.isNone) w := fun w a n c n' c' => Lib.run_eql_slice_nil w _ _ a n c n' c' Tryd.underlying22
    go_enter Tryd.func68, Tryd.ntmps68
    go_wp2
    go_ret
    exact ⟨_, rfl, AggsAt.nil _ _ _ _ _, Below.refl _ _⟩
  · have hown := World.ownsRow_made (e := 3) (size := 1) (base := w.heap.size) w #[] 0 (Nat.le_refl _) (by decide) rfl
    have bx := below_box w (.cells #[] 3)
    have OW := Lib.hid hown
    have BX := Lib.hid bx
    have HC : Hid (∀ j u, (flat encI xs)[j]? = some u → (w.alloc (.cells #[] 3)).cell? (x.add j) = some u) := fun j u hu => by
      have := hcl x rfl j u hu
      rw [bx.cell (World.block_lt_of_cell? w _ this)]; exact this
    clear h hown bx hcl hnil
    have q22 : ∀ (w : World) (a : Option Addr) (n c n' c' : Nat), (binOp .eql 22 (.slice a n c) (.slice none n' c')).run Tryd.prog w = .ok (.bool a.isNone) w := fun w a n c n' c' => Lib.run_eql_slice_nil w _ _ a n c n' c' Tryd.underlying22
    go_enter Tryd.func68, Tryd.ntmps68
    go_wp2_with (at_builtin; refine wpList_append_own _ rfl (.tmp 5) (.tmp 6) 22 rfl w.heap.size 3 i0 _ 1 8 Tryd.underlying22 hi hz0 hz1 hz2 rfl (by decide) (.slice (some ⟨w.heap.size, 0, none⟩) 0 0) 0 [] rfl OW.out x N c (flat encI xs) rfl ?qc1 ?qc2 ?qc3 ?qc4 ?qc5 ?qc6 ?_)
    case qc1 => rw [flat_length encI_len, hn]
    case qc2 => exact HC.out
    case qc3 => exact flat_oneCell encI_one _
    case qc4 => unfold maxLen; omega
    case qc5 => omega
    case qc6 => simp
    intro v1 w1 hown1 hgrow1 hn1
    have B1 := Lib.hid (BX.out.grown hgrow1 (by simp) (fun k hk => by simp [Value.ownBlock] at hk; omega))
    have A1 : Hid (OwnI w1 w.heap.size v1 xs) := by
      show w1.ownsRow _ _ 1 v1 xs.length (flat encI xs)
      rw [hn]
      have hh := hown1
      (try simp only [Nat.zero_add, List.nil_append] at hh)
      exact hh
    clear hown1 hgrow1 hn1
    go_wp2
    go_ret
    exact ⟨_, rfl, A1.out, B1.out⟩
/-- the first k unknown ones replaced -/
def curL (p : Int) (xs : List Int) (k : Nat) : List Int := (List.range xs.length).map fun i => if at0 xs i = 3 ∧ (unk (at0 xs) i).length < k then p else at0 xs i
theorem curL_len (p : Int) (xs : List Int) (k : Nat) : (curL p xs k).length = xs.length := by simp [curL]
theorem curL_at {p : Int} {xs : List Int} {k i : Nat} (hi : i < xs.length) : at0 (curL p xs k) i = if at0 xs i = 3 ∧ (unk (at0 xs) i).length < k then p else at0 xs i := by
  rw [at0_get (by rw [curL_len]; exact hi)]; simp [curL]
theorem curL_zero (p : Int) (xs : List Int) : curL p xs 0 = xs := by
  refine ext0 (curL_len _ _ _) (fun i hi => ?_)
  rw [curL_len] at hi
  rw [curL_at hi, if_neg (by omega)]
theorem curL_end (p : Int) (xs : List Int) : curL p xs (unkL xs).length = setL p xs := by
  refine ext0 (by rw [curL_len, setL_len]) (fun i hi => ?_)
  rw [curL_len] at hi
  rw [curL_at hi, setL_at hi]
  by_cases h : at0 xs i = 3
  · rw [if_pos h, if_pos ⟨h, unk_lt hi h⟩]
  · rw [if_neg h, if_neg (fun k => h k.1)]
theorem curL_step {p : Int} {xs : List Int} {k d : Nat} (h : (unkL xs)[k]? = some d) : (curL p xs k).set d p = curL p xs (k + 1) := by
  obtain ⟨h1, h2, h3⟩ := unk_place h
  refine ext0 (by rw [List.length_set, curL_len, curL_len]) (fun i hi => ?_)
  rw [List.length_set, curL_len] at hi
  rw [at0_set _ (by rw [curL_len]; exact h1), curL_at hi, curL_at hi]
  by_cases e : i = d
  · subst e
    rw [if_pos rfl, if_pos ⟨h2, by omega⟩]
  · rw [if_neg e]
    by_cases h5 : at0 xs i = 3
    · have hne : (unk (at0 xs) i).length ≠ k := fun e2 => by
        have h6 := unk_at hi h5
        rw [e2] at h6
        have h4 : (unk (at0 xs) xs.length)[k]? = some d := h
        rw [h6] at h4
        exact e (Option.some.inj h4)
      by_cases hk : (unk (at0 xs) i).length < k
      · rw [if_pos ⟨h5, hk⟩, if_pos ⟨h5, by omega⟩]
      · rw [if_neg (fun k2 => hk k2.2), if_neg (fun k2 => by have := k2.2; omega)]
    · rw [if_neg (fun k2 => h5 k2.1), if_neg (fun k2 => h5 k2.1)]
set_option maxRecDepth 100000 in
set_option maxHeartbeats 4000000 in
theorem settled_is (a : Option Addr) (N c : Nat) (xs : List Int) (p : Int) (w : World) (h : LIn w a N c xs) (h64 : N ≤ 64) :
    Calls Tryd.prog 61 #[.slice a N c, .int .i64 p] w (NewI w (setL p xs)) := by
  have hn := Lib.hid h.len
  have HL := Lib.hid (fun wr (b : Below w.heap.size w wr) => h.below b)
  clear h
  go_enter Tryd.func61, Tryd.ntmps61
  go_wp2_with fail
  refine (clone_is a N c xs _ (HL.out _ (Below.refl _ _)) h64).mono ?_
  rintro e w1 ⟨v, rfl, hv, b1⟩
  obtain ⟨av, cv, rfl, -, -⟩ := hv.lin
  rw [hn.out] at hv ⊢
  have OV := Lib.hid hv
  have B1 := Lib.hid b1
  clear hv b1
  go_wp2_with fail
  refine (unknown_is a N c xs _ (HL.out _ B1.out) h64).mono ?_
  rintro e w2 ⟨vu, rfl, hu, b2⟩
  obtain ⟨au, cu, rfl, lu, lub⟩ := hu.lin
  obtain ⟨U, hU⟩ : ∃ u, (ints (unkL xs)).length = u := ⟨_, rfl⟩
  have HU := Lib.hid hU
  rw [hU] at lu ⊢
  have LU := Lib.hid lu
  have LUB := Lib.hid lub
  have OV2 := Lib.hid (AggsAt.below OV.out b2)
  have B2 := Lib.hid (B1.out.trans (b2.mono B1.out.size))
  have u2 := lu.cap
  have u3 := lu.max
  unfold maxLen at u3
  have OVL := Lib.hid OV.out
  clear hu b2 lu lub hU OV
  go_wp2
  go_loopw [13] (fun i wr => ∃ k : Nat, k ≤ U ∧ i = .int .i64 k ∧ Hid (OwnI wr w.heap.size (.slice av N cv) (curL p xs k)) ∧ Hid (Below w.heap.size w wr) ∧ Hid (w2.grownBy wr (Value.ownBlock (.slice av N cv)))) (fun i _ => U - (intOf i).toNat)
  case atStart => exact ⟨0, Nat.zero_le _, rfl, by show OwnI _ _ _ _; rw [curL_zero]; exact OV2.out, B2.out, gb_refl _ _⟩
  case round =>
    obtain ⟨k, hk, rfl, own, bel, gb⟩ := hrel
    by_cases hlt : k < U
    · have hkU : k < (unkL xs).length := by rw [← HU.out, ints_len] at hlt; exact hlt
      obtain ⟨d, hd⟩ : ∃ d, (unkL xs)[k]? = some d := ⟨_, List.getElem?_eq_getElem hkU⟩
      have hdN : d < N := by rw [← hn.out]; exact (unk_place hd).1
      have LUW := LU.out.grown gb.out (fun _ q hq e => by
        have h1 := LUB.out q hq
        have h2 := (World.ownsRow.lt OVL.out q.block e.symm).2
        omega)
      obtain ⟨gu, ou, rfl, hgu, hcu⟩ := LUW.rin.some (by rw [HU.out]; omega)
      have c0 := cells_i hcu k (by rw [HU.out]; exact hlt)
      rw [ints_get hd] at c0
      obtain ⟨g, rfl, hlen, hbg, hgs, -, -, hcell⟩ := own.out.some (by omega)
      obtain ⟨c1, f1⟩ := hcell d hdN
      have st := own.out.set hlen d hdN p
      rw [curL_step hd] at st
      have NU := Lib.hid st.1
      have NB := Lib.hid (bel.out.grown st.2 bel.out.size (fun q hq => by cases hq; exact hbg))
      have NG : Hid (w2.grownBy (wr.setCell ⟨g, d, none⟩ (.int .i64 p)) (Value.ownBlock (.slice (some ⟨g, 0, none⟩) N cv))) := gb.out.andThen st.2 (fun _ hj => .inr hj)
      clear st hcell hcu hgu hd LUW hkU own bel gb hlen
      go_wp2
      go_roundw
      case rel => exact ⟨k + 1, by omega, by go_num, NU, NB, NG⟩
      case measure => simp [intOf]; omega
    · obtain rfl : k = U := by omega
      have FIN : Hid (OwnI wr w.heap.size (.slice av N cv) (setL p xs)) := by
        show OwnI _ _ _ _
        have := own.out
        rw [← HU.out, ints_len, curL_end] at this; exact this
      go_wp2
      go_ret
      exact ⟨_, rfl, FIN.out, bel.out⟩
theorem lowest_is (a : Option Addr) (N c : Nat) (xs : List Int) (w : World) (h : LIn w a N c xs) (h64 : N ≤ 64) :
    Calls Tryd.prog 44 #[.slice a N c] w (NewI w (setL 1 xs)) := by
  have HL := Lib.hid h
  clear h
  go_enter Tryd.func44, Tryd.ntmps44
  go_wp2_with fail
  refine (settled_is a N c xs 1 _ HL.out h64).mono ?_
  rintro e w1 ⟨v, rfl, hv, b1⟩
  have HV := Lib.hid hv
  have HB := Lib.hid b1
  clear hv b1
  go_wp2
  go_ret
  exact ⟨_, rfl, HV.out, HB.out⟩
theorem highest_is (a : Option Addr) (N c : Nat) (xs : List Int) (w : World) (h : LIn w a N c xs) (h64 : N ≤ 64) :
    Calls Tryd.prog 43 #[.slice a N c] w (NewI w (setL 2 xs)) := by
  have HL := Lib.hid h
  clear h
  go_enter Tryd.func43, Tryd.ntmps43
  go_wp2_with fail
  refine (settled_is a N c xs 2 _ HL.out h64).mono ?_
  rintro e w1 ⟨v, rfl, hv, b1⟩
  have HV := Lib.hid hv
  have HB := Lib.hid b1
  clear hv b1
  go_wp2
  go_ret
  exact ⟨_, rfl, HV.out, HB.out⟩
end Go.Proofs.YtoeojhabhnoojaaDoor.msk
