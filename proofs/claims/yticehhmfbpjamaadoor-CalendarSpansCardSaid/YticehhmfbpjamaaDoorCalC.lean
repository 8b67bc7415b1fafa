/- The walks of layer 2, third part: shiftMinutes, Shift, and the statements' own sanity check 'awake'. Condition: the tables hold what their texts lay, and the library's MaxLen some number. -/
import Derived.Test.YticehhmfbpjamaaDoorCalB
import Derived.Maps.OwnSet
import Derived.Deep.QuietTactic
import Derived.BigQuiet
import Derived.RegionTactic
namespace Go.Proofs.YticehhmfbpjamaaDoor.cal
open Go.RowKit strs lex Go.Maps

theorem keyed : Keyed Tryd.prog 3 := int_keyed Tryd.underlying3
theorem zero_int (w : World) : (zeroValue 3).run Tryd.prog w = .ok (.int .i64 0) w := by kernel_rfl
theorem key_at (n : Int) (h : (Lit.int .i64 n).wf = true) : keyOf Tryd.prog 3 (.int .i64 n) = some (.int .i64 n) := keyOf_int_mk Tryd.underlying3 h
theorem elem_at (n : Int) (h : (Lit.int .i64 n).wf = true) : plainElem (H := Unit) Tryd.prog 3 (.int .i64 n) = some (.lit (.int .i64 n), []) := plainElem_int Tryd.underlying3 h
/-- the map of shifts -/
def Dsh : DataW Unit := (((((((((DataW.map [])).put (.int .i64 1) (.lit (.int .i64 60))).put (.int .i64 2) (.lit (.int .i64 120))).put (.int .i64 3) (.lit (.int .i64 180))).put (.int .i64 4) (.lit (.int .i64 240))).put (.int .i64 6) (.lit (.int .i64 360))).put (.int .i64 8) (.lit (.int .i64 480))).put (.int .i64 12) (.lit (.int .i64 720))).put (.int .i64 24) (.lit (.int .i64 1440))
/-- what shiftMinutes leaves -/
def SMPost (w : World) (e : Ending) (w' : World) : Prop :=
  e = .returned (.map (some w.heap.size)) ∧ w'.ownsMap Tryd.prog 3 (plainElem Tryd.prog 3) w.heap.size 8 Dsh ∧ Below w.heap.size w w'
set_option maxRecDepth 100000 in
set_option maxHeartbeats 1000000 in
theorem minutes_map (w : World) : Calls Tryd.prog 41 #[] w (SMPost w) := by
  have hmm := @run_makeMap Tryd.prog
  have H0 := Lib.hid (World.ownsMap_made (H := Unit) w Tryd.prog 3 (plainElem Tryd.prog 3))
  have G0 := Lib.hid ((Below.refl w.heap.size w).alloc (Nat.le_refl _) (.map #[] 0))
  obtain ⟨w1, r1, o1, g1⟩ := H0.out.update (t := 63) keyed Tryd.underlying63 (by unfold maxLen; omega) (key_at 1 (by decide)) (elem_at 60 (by decide))
  have H1 := Lib.hid o1
  have G1 := Lib.hid (G0.out.grown g1 G0.out.size (fun k hk => by cases hk; exact Nat.le_refl _))
  clear o1 g1
  obtain ⟨w2, r2, o2, g2⟩ := H1.out.update (t := 63) keyed Tryd.underlying63 (by unfold maxLen; omega) (key_at 2 (by decide)) (elem_at 120 (by decide))
  have H2 := Lib.hid o2
  have G2 := Lib.hid (G1.out.grown g2 G1.out.size (fun k hk => by cases hk; exact Nat.le_refl _))
  clear o2 g2
  obtain ⟨w3, r3, o3, g3⟩ := H2.out.update (t := 63) keyed Tryd.underlying63 (by unfold maxLen; omega) (key_at 3 (by decide)) (elem_at 180 (by decide))
  have H3 := Lib.hid o3
  have G3 := Lib.hid (G2.out.grown g3 G2.out.size (fun k hk => by cases hk; exact Nat.le_refl _))
  clear o3 g3
  obtain ⟨w4, r4, o4, g4⟩ := H3.out.update (t := 63) keyed Tryd.underlying63 (by unfold maxLen; omega) (key_at 4 (by decide)) (elem_at 240 (by decide))
  have H4 := Lib.hid o4
  have G4 := Lib.hid (G3.out.grown g4 G3.out.size (fun k hk => by cases hk; exact Nat.le_refl _))
  clear o4 g4
  obtain ⟨w5, r5, o5, g5⟩ := H4.out.update (t := 63) keyed Tryd.underlying63 (by unfold maxLen; omega) (key_at 6 (by decide)) (elem_at 360 (by decide))
  have H5 := Lib.hid o5
  have G5 := Lib.hid (G4.out.grown g5 G4.out.size (fun k hk => by cases hk; exact Nat.le_refl _))
  clear o5 g5
  obtain ⟨w6, r6, o6, g6⟩ := H5.out.update (t := 63) keyed Tryd.underlying63 (by unfold maxLen; omega) (key_at 8 (by decide)) (elem_at 480 (by decide))
  have H6 := Lib.hid o6
  have G6 := Lib.hid (G5.out.grown g6 G5.out.size (fun k hk => by cases hk; exact Nat.le_refl _))
  clear o6 g6
  obtain ⟨w7, r7, o7, g7⟩ := H6.out.update (t := 63) keyed Tryd.underlying63 (by unfold maxLen; omega) (key_at 12 (by decide)) (elem_at 720 (by decide))
  have H7 := Lib.hid o7
  have G7 := Lib.hid (G6.out.grown g7 G6.out.size (fun k hk => by cases hk; exact Nat.le_refl _))
  clear o7 g7
  obtain ⟨w8, r8, o8, g8⟩ := H7.out.update (t := 63) keyed Tryd.underlying63 (by unfold maxLen; omega) (key_at 24 (by decide)) (elem_at 1440 (by decide))
  have H8 := Lib.hid o8
  have G8 := Lib.hid (G7.out.grown g8 G7.out.size (fun k hk => by cases hk; exact Nat.le_refl _))
  clear o8 g8
  go_enter Tryd.func41, Tryd.ntmps41
  go_wp2
  go_ret
  exact ⟨rfl, H8.out, G8.out⟩
theorem sh_has (h : Int) (hh : shOk h = true) : Maps.has Dsh (.int .i64 h) = true := by
  unfold shOk at hh
  rcases of_decide_eq_true hh with rfl | rfl | rfl | rfl | rfl | rfl | rfl | rfl <;> decide +kernel
theorem Dsh_is : Dsh = .map [(.int .i64 1, .lit (.int .i64 60)), (.int .i64 2, .lit (.int .i64 120)), (.int .i64 3, .lit (.int .i64 180)), (.int .i64 4, .lit (.int .i64 240)), (.int .i64 6, .lit (.int .i64 360)), (.int .i64 8, .lit (.int .i64 480)), (.int .i64 12, .lit (.int .i64 720)), (.int .i64 24, .lit (.int .i64 1440))] := by rfl
theorem sh_not (h : Int) (hh : shOk h = false) : Maps.has Dsh (.int .i64 h) = false := by
  unfold shOk at hh
  have := of_decide_eq_false hh
  have e : ∀ k : Int, k ≠ h → Lit.int .i64 k ≠ Lit.int .i64 h := fun k hk he => hk (by injection he)
  rw [Dsh_is]
  simp only [Maps.has_eq, List.any_cons, List.any_nil]
  rw [sameKey_ne (e 1 (by omega)), sameKey_ne (e 2 (by omega)), sameKey_ne (e 3 (by omega)), sameKey_ne (e 4 (by omega)), sameKey_ne (e 6 (by omega)), sameKey_ne (e 8 (by omega)), sameKey_ne (e 12 (by omega)), sameKey_ne (e 24 (by omega))]
  rfl
theorem sh_at (h c : Int) (hh : shOk h = true) (hc : Dsh.atKey (.int .i64 h) (.lit (.int .i64 0)) = .lit (.int .i64 c)) : c = 60 * h := by
  unfold shOk at hh
  rcases of_decide_eq_true hh with rfl | rfl | rfl | rfl | rfl | rfl | rfl | rfl <;> (injection hc with h1; injection h1 with _ h2; exact h2.symm)

set_option maxRecDepth 100000 in
set_option maxHeartbeats 400000 in
theorem shift_walk (t h k q r : Int) (wk : (Lit.int .i64 h).wf = true) (hc : ∀ c : Int, Dsh.atKey (.int .i64 h) (.lit (.int .i64 0)) = .lit (.int .i64 c) → c = k) (hhas : Maps.has Dsh (.int .i64 h) = true) (k0 : 60 ≤ k) (k1 : k ≤ 1440) (ho : isTm t = true)
    (q0 : 0 ≤ q) (q1 : q ≤ 16778296) (r0 : 0 ≤ r) (r1 : r ≤ 1440) (hq : (t - 360 + 1440) / k = q) (hr : 1440 / k = r) (hv : q - r = (t - 360) / (60 * h)) (w : World) :
    Calls Tryd.prog 17 #[.int .i64 t, .int .i64 h] w fun e w' => e = .returned (.tuple #[.int .i64 ((t - 360) / (60 * h)), .int .i64 0]) ∧ Below w.heap.size w w' := by
  have C0 := Lib.hid (istime_is t true ho w)
  unfold isTm at ho
  obtain ⟨h1, h2⟩ := of_decide_eq_true ho
  have HC := Lib.hid hc
  have HH := Lib.hid hhas
  have HQ := Lib.hid hq
  have HR := Lib.hid hr
  have HV := Lib.hid hv
  clear hc hhas ho hq hr hv
  go_enter Tryd.func17, Tryd.ntmps17
  go_wp2_with fail
  refine C0.out.mono ?_; rintro e w' ⟨rfl, rfl⟩
  go_wp2_with fail
  refine (minutes_map _).mono ?_; rintro e w1 ⟨rfl, own, hb⟩
  have OW := Lib.hid own
  clear own
  go_wp2_with (at_lookup; refine wpList_lookup_own_ok_int _ rfl _ _ 63 rfl 3 3 .i64 keyed Tryd.underlying63 Tryd.underlying3 (zero_int _) w.heap.size 8 Dsh rfl OW.out _ _ rfl (key_at h wk) ?_; intro c hat _; have hck := (HC.out c hat).symm; subst hck; rw [HH.out]; clear hat)
  have kz : k ≠ 0 := by omega
  go_quiet (fail)
  go_wp2
  go_ret2
  refine ⟨ret_pair ?_ rfl, below_drewN hb _⟩
  rw [HQ.out, HR.out, IntWalk.wrap64_in _ ⟨by omega, by omega⟩, HV.out]
theorem shift_one (t h k : Int) (hh : shOk h = true) (hk : k = 60 * h) (k0 : 60 ≤ k) (k1 : k ≤ 1440) (ho : isTm t = true) (hq : 0 ≤ (t - 360 + 1440) / k ∧ (t - 360 + 1440) / k ≤ 16778296) (hr : 0 ≤ 1440 / k ∧ 1440 / k ≤ 1440)
    (hv : (t - 360 + 1440) / k - 1440 / k = (t - 360) / (60 * h)) (w : World) :
    Calls Tryd.prog 17 #[.int .i64 t, .int .i64 h] w fun e w' => e = .returned (.tuple #[.int .i64 ((t - 360) / (60 * h)), .int .i64 0]) ∧ Below w.heap.size w w' :=
  shift_walk t h k _ _ (WalkArith.wf_i64 (by omega)) (fun c hc => by rw [hk]; exact sh_at h c hh hc) (sh_has h hh) k0 k1 ho hq.1 hq.2 hr.1 hr.2 rfl rfl hv w
theorem shift_ok (t h : Int) (hh : shOk h = true) (ho : isTm t = true) (w : World) :
    Calls Tryd.prog 17 #[.int .i64 t, .int .i64 h] w fun e w' => e = .returned (.tuple #[.int .i64 ((t - 360) / (60 * h)), .int .i64 0]) ∧ Below w.heap.size w w' := by
  have hh' := hh
  have ho' := ho
  unfold shOk at hh'
  unfold isTm at ho'
  have ht := of_decide_eq_true ho'
  clear ho'
  rcases of_decide_eq_true hh' with rfl | rfl | rfl | rfl | rfl | rfl | rfl | rfl
  · exact shift_one t 1 60 hh (by omega) (by omega) (by omega) ho (by omega) (by omega) (by omega) w
  · exact shift_one t 2 120 hh (by omega) (by omega) (by omega) ho (by omega) (by omega) (by omega) w
  · exact shift_one t 3 180 hh (by omega) (by omega) (by omega) ho (by omega) (by omega) (by omega) w
  · exact shift_one t 4 240 hh (by omega) (by omega) (by omega) ho (by omega) (by omega) (by omega) w
  · exact shift_one t 6 360 hh (by omega) (by omega) (by omega) ho (by omega) (by omega) (by omega) w
  · exact shift_one t 8 480 hh (by omega) (by omega) (by omega) ho (by omega) (by omega) (by omega) w
  · exact shift_one t 12 720 hh (by omega) (by omega) (by omega) ho (by omega) (by omega) (by omega) w
  · exact shift_one t 24 1440 hh (by omega) (by omega) (by omega) ho (by omega) (by omega) (by omega) w

set_option maxRecDepth 100000 in
set_option maxHeartbeats 400000 in
theorem shift_no (t h : Int) (hh : shOk h = false) (ho : isTm t = true) (h0 : -9223372036854775808 ≤ h) (h1 : h ≤ 9223372036854775807) (w : World) :
    Calls Tryd.prog 17 #[.int .i64 t, .int .i64 h] w fun e w' => e = .returned (.tuple #[.int .i64 0, .int .i64 5]) ∧ Below w.heap.size w w' := by
  have C0 := Lib.hid (istime_is t true ho w)
  have HH := Lib.hid (sh_not h hh)
  have wk : (Lit.int .i64 h).wf = true := WalkArith.wf_i64 ⟨h0, h1⟩
  clear hh ho
  go_enter Tryd.func17, Tryd.ntmps17
  go_wp2_with fail
  refine C0.out.mono ?_; rintro e w' ⟨rfl, rfl⟩
  go_wp2_with fail
  refine (minutes_map _).mono ?_; rintro e w1 ⟨rfl, own, hb⟩
  have OW := Lib.hid own
  clear own
  go_wp2_with (at_lookup; refine wpList_lookup_own_ok_int _ rfl _ _ 63 rfl 3 3 .i64 keyed Tryd.underlying63 Tryd.underlying3 (zero_int _) w.heap.size 8 Dsh rfl OW.out _ _ rfl (key_at h wk) ?_; intro c hat _; rw [HH.out]; clear hat)
  go_ret2
  exact ⟨rfl, hb⟩
set_option maxRecDepth 100000 in
theorem shift_bad (t h : Int) (ho : isTm t = false) (w : World) :
    Calls Tryd.prog 17 #[.int .i64 t, .int .i64 h] w fun e w' => e = .returned (.tuple #[.int .i64 0, .int .i64 11]) ∧ Below w.heap.size w w' := by
  have C0 := Lib.hid (istime_is t false ho w)
  clear ho
  go_enter Tryd.func17, Tryd.ntmps17
  go_wp2_with fail
  refine C0.out.mono ?_; rintro e w' ⟨rfl, rfl⟩
  go_wp2
  go_ret2
  exact ⟨rfl, Below.refl _ _⟩
theorem shift_is (t h v x : Int) (hv : shV t h = v) (hx : shE t h = x) (h0 : -9223372036854775808 ≤ h) (h1 : h ≤ 9223372036854775807) (w : World) :
    Calls Tryd.prog 17 #[.int .i64 t, .int .i64 h] w fun e w' => e = .returned (.tuple #[.int .i64 v, .int .i64 x]) ∧ Below w.heap.size w w' := by
  subst hv hx
  unfold shV shE
  by_cases ho : isTm t = true
  · by_cases hh : shOk h = true
    · rw [if_pos ho, if_pos ho, if_pos hh, if_pos hh]; exact shift_ok t h hh ho w
    · rw [if_pos ho, if_pos ho, if_neg hh, if_neg hh]; exact shift_no t h (Bool.eq_false_iff.2 hh) ho h0 h1 w
  · rw [if_neg ho, if_neg ho]; exact shift_bad t h (Bool.eq_false_iff.2 ho) w

/-! ### the statements' own sanity check -/
theorem text_870 : timeText 870 = [48, 47, 49, 52, 58, 51, 48] := by
  have e1 : two (870 % 1440 / 60) = [49, 52] := by
    rw [show (870 : Int) % 1440 / 60 = 14 from by decide]; unfold two; rw [if_neg (by decide), itoa_two (by decide) (by decide)]; rfl
  have e2 : two (870 % 60) = [51, 48] := by
    rw [show (870 : Int) % 60 = 30 from by decide]; unfold two; rw [if_neg (by decide), itoa_two (by decide) (by decide)]; rfl
  unfold timeText
  rw [e1, e2, show (870 : Int) / 1440 = 0 from by decide, itoa_small (by decide) (by decide)]; rfl
theorem tm_870 : isTm 870 = true := by decide
theorem print_870 (w : World) (h : Tabs w) :
    Calls Tryd.prog 15 #[.int .i64 870] w fun e w' => e = .returned (.tuple #[.string { data := #[48, 47, 49, 52, 58, 51, 48] }, .int .i64 0]) ∧ Below w.heap.size w w' :=
  (print_ok 870 tm_870 w h).mono fun e w' ⟨he, hb⟩ => ⟨by rw [he, text_870]; rfl, hb⟩
theorem shift_359 (w : World) :
    Calls Tryd.prog 17 #[.int .i64 359, .int .i64 8] w fun e w' => e = .returned (.tuple #[.int .i64 (-1), .int .i64 0]) ∧ Below w.heap.size w w' :=
  shift_is 359 8 (-1) 0 (by decide) (by decide) (by decide) (by decide) w
theorem parse_870 (w : World) (h : CTabs w) :
    Calls Tryd.prog 19 #[.string { data := #[48, 47, 49, 52, 58, 51, 48] }] w fun e w' => e = .returned (.tuple #[.int .i64 870, .int .i64 0]) ∧ Below w.heap.size w w' :=
  parse_at { data := #[48, 47, 49, 52, 58, 51, 48] } [48, 47, 49, 52, 58, 51, 48] rfl 870 0 (by rw [← text_870]; exact (parse_text tm_870).1) (by rw [← text_870]; exact (parse_text tm_870).2) (by decide) w h
set_option maxRecDepth 100000 in
theorem awake_any (w : World) (h : CTabs w) :
    Calls Tryd.prog 9 #[] w fun e w' => e = .returned (.bool true) ∧ Below w.heap.size w w' := by
  have C1 := Lib.hid (print_870 w h.tabs)
  have H := Lib.hid h
  clear h
  go_enter Tryd.func9, Tryd.ntmps9
  go_wp2_with fail
  refine C1.out.mono ?_; rintro e w1 ⟨rfl, hb1⟩
  go_wp2_with fail
  refine (shift_359 _).mono ?_; rintro e w2 ⟨rfl, hb2⟩
  have H2 := Lib.hid ((H.out.below hb1).below hb2)
  go_wp2_with fail
  refine (parse_870 _ H2.out).mono ?_; rintro e w3 ⟨rfl, hb3⟩
  go_wp2
  go_ret
  exact ⟨rfl, (hb1.trans (hb2.mono hb1.size)).trans (hb3.mono (Nat.le_trans hb1.size hb2.size))⟩
end Go.Proofs.YticehhmfbpjamaaDoor.cal
