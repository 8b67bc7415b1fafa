/- The walks of layer 2, second part: twoDigits, Print, readTwoDigits, Parse. Condition: the tables hold what their texts lay, and the library's MaxLen some number. -/
import Derived.Test.YthdjpmiohfaphaaGreatDoorMwCA
import Derived.Test.YthdjpmiohfaphaaGreatDoorMwTx
import Derived.Test.YthdjpmiohfaphaaGreatDoorStrs
namespace Go.Proofs.YthdjpmiohfaphaaGreatDoor.cal
open Go.RowKit strs lex

/-- the library's MaxLen holds some number -/
def HasMax (w : World) : Prop := ∃ m : Int, w.cell? ⟨3, 0, none⟩ = some (.int .i64 m)
/-- what every call of layer 2 reads -/
structure CTabs (w : World) : Prop where
  tabs : Tabs w
  most : HasMax w
theorem HasMax.below {w w' : World} (h : HasMax w) (hb : Below w.heap.size w w') : HasMax w' := by
  obtain ⟨m, hm⟩ := h
  exact ⟨m, by rw [hb.cell (World.block_lt_of_cell? w _ hm)]; exact hm⟩
theorem CTabs.below {w w' : World} (h : CTabs w) (hb : Below w.heap.size w w') : CTabs w' := ⟨h.tabs.below hb, h.most.below hb⟩
theorem HasMax.drewN {w : World} (h : HasMax w) (n : Nat) : HasMax (w.drewN n) := by obtain ⟨m, hm⟩ := h; exact ⟨m, hm⟩
theorem below_dr (w : World) (n : Nat) : Below w.heap.size w (w.drewN n) := below_drewN (Below.refl _ _) _

/-! ### text -/
theorem text_at (n : Int) (x : ByteArray) (hx : x = bs (Lib.itoa n)) (w : World) (h : Tabs w) (h0 : -9223372036854775808 ≤ n) (h1 : n ≤ 9223372036854775807) :
    Calls Tryz.prog 53 #[.int .i64 n] w fun e w' => e = .returned (.string x) ∧ Below w.heap.size w w' := by
  subst hx; exact text_any n w h h0 h1
theorem lead_bs (x : List UInt8) (c : UInt8) : ({ data := #[c] } : ByteArray) ++ bs x = bs (c :: x) := by
  rw [← bs_of (({ data := #[c] } : ByteArray) ++ bs x), ByteArray.data_append]; simp [bs]
theorem itoa_size {n : Int} (h0 : -9223372036854775808 ≤ n) (h1 : n ≤ 9223372036854775807) : (bs (Lib.itoa n)).size ≤ 21 := by rw [bs_size]; exact itoa_length n h0 h1
theorem two_bs {n : Int} (h : n < 10) : ({ data := #[48] } : ByteArray) ++ bs (Lib.itoa n) = bs (two n) := by unfold two; rw [if_pos h, lead_bs]
theorem two_bs2 {n : Int} (h : ¬ n < 10) : bs (Lib.itoa n) = bs (two n) := by unfold two; rw [if_neg h]
theorem ret_str {a b : ByteArray} (h : a = b) : Ending.returned (.string a) = .returned (.string b) := by rw [h]
set_option maxRecDepth 100000 in
theorem two_at (n : Int) (x : ByteArray) (hx : x = bs (two n)) (w : World) (h : Tabs w) (h0 : 0 ≤ n) (h1 : n ≤ 9223372036854775807) :
    Calls Tryz.prog 75 #[.int .i64 n] w fun e w' => e = .returned (.string x) ∧ Below w.heap.size w w' := by
  subst hx
  obtain ⟨t, ht⟩ : ∃ t, t = bs (Lib.itoa n) := ⟨_, rfl⟩
  have hk : t.size ≤ 21 := by rw [ht]; exact itoa_size (by omega) h1
  have C := Lib.hid (text_at n t ht w h (by omega) h1)
  by_cases c : n < 10
  · have HF := Lib.hid (show ({ data := #[48] } : ByteArray) ++ t = bs (two n) from by rw [ht]; exact two_bs c)
    clear ht h
    go_enter Tryz.func75, Tryz.ntmps75
    go_wp2_with fail
    refine C.out.mono ?_; rintro e w1 ⟨rfl, hb⟩
    go_wp2
    go_ret
    exact ⟨ret_str HF.out, hb⟩
  · have HF := Lib.hid (show t = bs (two n) from by rw [ht]; exact two_bs2 c)
    clear ht h
    go_enter Tryz.func75, Tryz.ntmps75
    go_wp2_with fail
    refine C.out.mono ?_; rintro e w1 ⟨rfl, hb⟩
    go_wp2
    go_ret
    exact ⟨ret_str HF.out, hb⟩
theorem two_size {n : Int} (h0 : 0 ≤ n) (h : n < 100) : (bs (two n)).size ≤ 2 := by
  obtain ⟨x, y, e, _⟩ := two_digits h0 h
  rw [bs_size, e]; simp
theorem text_parts (t : Int) : bs (Lib.itoa (t / 1440)) ++ ({ data := #[47] } : ByteArray) ++ bs (two (t % 1440 / 60)) ++ ({ data := #[58] } : ByteArray) ++ bs (two (t % 60)) = bs (timeText t) := by
  unfold timeText
  rw [bs_one, bs_one, bs_append, bs_append, bs_append, bs_append]; simp
theorem ret_text {a b : ByteArray} (h : a = b) (x : Int) : Ending.returned (.tuple #[.string a, .int .i64 x]) = .returned (.tuple #[.string b, .int .i64 x]) := by rw [h]

set_option maxRecDepth 100000 in
set_option maxHeartbeats 400000 in
theorem print_ok (t : Int) (ho : isTm t = true) (w : World) (h : Tabs w) :
    Calls Tryz.prog 66 #[.int .i64 t] w fun e w' => e = .returned (.tuple #[.string (bs (timeText t)), .int .i64 0]) ∧ Below w.heap.size w w' := by
  have C0 := Lib.hid (split_ok t ho w)
  have ho' := ho
  unfold isTm at ho'
  obtain ⟨h1, h2⟩ := of_decide_eq_true ho'
  obtain ⟨x, hx⟩ : ∃ x, x = bs (Lib.itoa (t / 1440)) := ⟨_, rfl⟩
  obtain ⟨y, hy⟩ : ∃ y, y = bs (two (t % 1440 / 60)) := ⟨_, rfl⟩
  obtain ⟨z, hz⟩ : ∃ z, z = bs (two (t % 60)) := ⟨_, rfl⟩
  have kx : x.size ≤ 21 := by rw [hx]; exact itoa_size (by omega) (by omega)
  have ky : y.size ≤ 2 := by rw [hy]; exact two_size (by omega) (by omega)
  have kz : z.size ≤ 2 := by rw [hz]; exact two_size (by omega) (by omega)
  have C1 := Lib.hid (fun w h => text_at (t / 1440) x hx w h (by omega) (by omega))
  have C2 := Lib.hid (fun w h => two_at (t % 1440 / 60) y hy w h (by omega) (by omega))
  have C3 := Lib.hid (fun w h => two_at (t % 60) z hz w h (by omega) (by omega))
  have HF := Lib.hid (show x ++ ({ data := #[47] } : ByteArray) ++ y ++ ({ data := #[58] } : ByteArray) ++ z = bs (timeText t) from by rw [hx, hy, hz]; exact text_parts t)
  have H := Lib.hid h
  clear h ho ho' hx hy hz
  go_enter Tryz.func66, Tryz.ntmps66
  go_wp2_with fail
  refine C0.out.mono ?_; rintro e w' ⟨rfl, rfl⟩
  go_wp2_with fail
  refine (C1.out _ H.out).mono ?_; rintro e w1 ⟨rfl, hb1⟩
  have H1 := Lib.hid (H.out.below hb1)
  go_wp2_with fail
  refine (C2.out _ H1.out).mono ?_; rintro e w2 ⟨rfl, hb2⟩
  have H2 := Lib.hid (H1.out.below hb2)
  go_wp2_with fail
  refine (C3.out _ H2.out).mono ?_; rintro e w3 ⟨rfl, hb3⟩
  go_wp2
  go_ret2
  exact ⟨ret_text HF.out 0, (hb1.trans (hb2.mono hb1.size)).trans (hb3.mono (Nat.le_trans hb1.size hb2.size))⟩
set_option maxRecDepth 100000 in
theorem print_no (t : Int) (ho : isTm t = false) (w : World) :
    Calls Tryz.prog 66 #[.int .i64 t] w fun e w' => e = .returned (.tuple #[.string (bs []), .int .i64 11]) ∧ Below w.heap.size w w' := by
  have C0 := Lib.hid (split_no t ho w)
  clear ho
  go_enter Tryz.func66, Tryz.ntmps66
  go_wp2_with fail
  refine C0.out.mono ?_; rintro e w' ⟨rfl, rfl⟩
  go_wp2
  go_ret2
  exact ⟨rfl, Below.refl _ _⟩

/-! ### reading -/
set_option maxRecDepth 100000 in
theorem rd_any (l : List UInt8) (hl : l.length ≤ 4611686018427387904) (w : World) (h : HasClasses w) (v : Int) (b : Bool) (hv : rdV l = v) (hb : rdB l = b) :
    Calls Tryz.prog 80 #[.string (bs l)] w fun e w' => e = .returned (.tuple #[.int .i64 v, .bool b]) ∧ w = w' := by
  obtain ⟨s, hs⟩ : ∃ s, s = bs l := ⟨_, rfl⟩
  rw [← hs]
  have hk : s.size = l.length := by rw [hs, bs_size]
  by_cases c : l.length = 2
  · obtain ⟨q, hq⟩ : ∃ q, q = bs (Lib.trimPrefix l [48]) := ⟨_, rfl⟩
    have C0 := Lib.hid (show Calls Tryz.prog 87 #[.string s, .string { data := #[48] }] w fun e w' => e = .returned (.string q) ∧ w = w' from
      (Tryz.strings_TrimPrefix s { data := #[48] } w).mono fun e w' ⟨he, hw⟩ => ⟨by rw [he, hq, hs]; rfl, hw.symm⟩)
    have e1 : rdB l = numB (Lib.trimPrefix l [48]) 99 := by unfold rdB; rw [decide_eq_true c, Bool.true_and]
    have e2 : rdV l = numV (Lib.trimPrefix l [48]) 99 := by unfold rdV numV; rw [e1]
    have hqs : q.size ≤ maxLen := by
      rw [hq, bs_size]
      have : (Lib.trimPrefix l [48]).length ≤ l.length := by unfold Lib.trimPrefix; split <;> simp
      unfold maxLen; omega
    have C1 := Lib.hid (number_at q 99 v b w h hqs (by omega) (by omega) (by rw [hq, bs_data, ← e2]; exact hv) (by rw [hq, bs_data, ← e1]; exact hb))
    have t1 : ((s.size : Int) != 2) = false := by rw [hk, c]; rfl
    clear hs hk hq e1 e2 hv hb h
    go_enter Tryz.func80, Tryz.ntmps80
    go_wp2_with fail
    refine C0.out.mono ?_; rintro e w' ⟨rfl, rfl⟩
    go_wp2_with fail
    refine C1.out.mono ?_; rintro e w' ⟨rfl, rfl⟩
    go_wp2
    go_ret2
    exact ⟨rfl, rfl⟩
  · have e1 : rdB l = false := by unfold rdB; rw [decide_eq_false c, Bool.false_and]
    have e2 : rdV l = 0 := by unfold rdV; rw [e1]; rfl
    obtain rfl : v = 0 := by rw [← hv, e2]
    obtain rfl : b = false := by rw [← hb, e1]
    have t1 : ((s.size : Int) != 2) = true := by rw [hk, bne_iff_ne]; omega
    have hk2 : s.size ≤ 4611686018427387904 := by omega
    clear hs hk hv hb h e1 e2 c
    go_enter Tryz.func80, Tryz.ntmps80
    go_wp2
    go_ret2
    exact ⟨rfl, rfl⟩
/-- strings.Cut around one byte -/
theorem cut_at (l : List UInt8) (c : UInt8) (a r : List UInt8) (b : Bool) (hc : cutAt c l = (a, r, b)) (hl : l.length < 4294967281) (w : World) (h : HasMax w) :
    Calls Tryz.prog 79 #[.string (bs l), .string { data := #[c] }] w fun e w' => e = .returned (.tuple #[.string (bs a), .string (bs r), .bool b]) ∧ ∃ n, w' = w.drewN n := by
  obtain ⟨m, hm⟩ := h
  have := Tryz.strings_Cut (bs l) { data := #[c] } m w (by rw [bs_size]; exact hl) hm
  rw [bs_data, show (({ data := #[c] } : ByteArray).data.toList) = [c] from rfl, cut_eq, hc] at this
  exact this

set_option maxRecDepth 100000 in
set_option maxHeartbeats 1000000 in
theorem parse_any (l : List UInt8) (hl : l.length < 4294967281) (w : World) (h : CTabs w) :
    Calls Tryz.prog 70 #[.string (bs l)] w fun e w' => e = .returned (.tuple #[.int .i64 (paV l), .int .i64 (paE l)]) ∧ Below w.heap.size w w' := by
  have l1 := cutAt_length 47 l
  have l2 := cutAt_length 58 (cutAt 47 l).2.1
  obtain ⟨a, c, g1, hc1⟩ : ∃ a c g, cutAt 47 l = (a, c, g) := ⟨_, _, _, rfl⟩
  obtain ⟨b, m, g2, hc2⟩ : ∃ b m g, cutAt 58 c = (b, m, g) := ⟨_, _, _, rfl⟩
  have pd : pDay l = a := by unfold pDay; rw [hc1]
  have ph : pHour l = b := by unfold pHour; rw [hc1]; show (cutAt 58 c).1 = b; rw [hc2]
  have pm : pMin l = m := by unfold pMin; rw [hc1]; show (cutAt 58 c).2.1 = m; rw [hc2]
  rw [hc1] at l1 l2
  simp only at l1 l2
  rw [hc2] at l2
  simp only at l2
  have C0 := Lib.hid (fun w h => cut_at l 47 a c g1 hc1 hl w h)
  have C1 := Lib.hid (fun w h => cut_at c 58 b m g2 hc2 (by omega) w h)
  have HM := Lib.hid h.most
  have HC : Hid (∀ n, HasClasses (w.drewN n)) := fun n => (h.tabs.below (below_dr w n)).cls
  obtain ⟨vd, hvd⟩ : ∃ v, numV a 11650 = v := ⟨_, rfl⟩
  obtain ⟨vh, hvh⟩ : ∃ v, rdV b = v := ⟨_, rfl⟩
  obtain ⟨vm, hvm⟩ : ∃ v, rdV m = v := ⟨_, rfl⟩
  obtain ⟨td, htd⟩ : ∃ v, numB a 11650 = v := ⟨_, rfl⟩
  obtain ⟨th, hth⟩ : ∃ v, rdB b = v := ⟨_, rfl⟩
  obtain ⟨tm, htm⟩ : ∃ v, rdB m = v := ⟨_, rfl⟩
  have ka : (bs a).size ≤ maxLen := by rw [bs_size]; unfold maxLen; omega
  have C2 := Lib.hid (fun w h => number_at (bs a) 11650 vd td w h ka (by omega) (by omega) (by rw [bs_data]; exact hvd) (by rw [bs_data]; exact htd))
  have C3 := Lib.hid (fun w h => rd_any b (by omega) w h vh th hvh hth)
  have C4 := Lib.hid (fun w h => rd_any m (by omega) w h vm tm hvm htm)
  by_cases ok : td = true ∧ th = true ∧ tm = true
  · obtain ⟨rfl, rfl, rfl⟩ := ok
    have evd : (val a : Int) = vd := by rw [← hvd]; unfold numV; rw [if_pos htd]
    have ep : progB l = mkOk vd vh vm := by unfold progB; rw [pd, ph, pm, htd, hth, htm, evd, hvh, hvm]; rfl
    have ev : progV l = 1440 * vd + 60 * vh + vm := by unfold progV; rw [pd, ph, pm, evd, hvh, hvm]
    by_cases om : mkOk vd vh vm = true
    · have C5 := Lib.hid (fun w => make_ok vd vh vm om w)
      have HV := Lib.hid (show 1440 * vd + 60 * vh + vm = paV l from by unfold paV; rw [ep, if_pos om, ev])
      have HE := Lib.hid (show (0 : Int) = paE l from by unfold paE; rw [ep, if_pos om])
      clear h l1 l2 hc1 hc2 pd ph pm hvd hvh hvm htd hth htm ka evd ep ev om
      go_enter Tryz.func70, Tryz.ntmps70
      go_wp2_with fail
      refine (C0.out _ HM.out).mono ?_; rintro e w' ⟨rfl, n1, rfl⟩
      go_wp2_with fail
      refine (C1.out _ (HM.out.drewN n1)).mono ?_; rintro e w' ⟨rfl, n2, rfl⟩
      go_wp2_with fail
      refine (C2.out _ (HC.out _)).mono ?_; rintro e w' ⟨rfl, rfl⟩
      go_wp2_with fail
      refine (C3.out _ (HC.out _)).mono ?_; rintro e w' ⟨rfl, rfl⟩
      go_wp2_with fail
      refine (C4.out _ (HC.out _)).mono ?_; rintro e w' ⟨rfl, rfl⟩
      go_wp2_with fail
      refine (C5.out _).mono ?_; rintro e w' ⟨rfl, rfl⟩
      go_wp2
      go_ret2
      exact ⟨ret_pair HV.out HE.out, below_dr w _⟩
    · have C5 := Lib.hid (fun w => make_no vd vh vm (Bool.eq_false_iff.2 om) w)
      have HN := Lib.hid (show progB l = false from by rw [ep]; exact Bool.eq_false_iff.2 om)
      clear h l1 l2 hc1 hc2 pd ph pm hvd hvh hvm htd hth htm ka evd ep ev om
      go_enter Tryz.func70, Tryz.ntmps70
      go_wp2_with fail
      refine (C0.out _ HM.out).mono ?_; rintro e w' ⟨rfl, n1, rfl⟩
      go_wp2_with fail
      refine (C1.out _ (HM.out.drewN n1)).mono ?_; rintro e w' ⟨rfl, n2, rfl⟩
      go_wp2_with fail
      refine (C2.out _ (HC.out _)).mono ?_; rintro e w' ⟨rfl, rfl⟩
      go_wp2_with fail
      refine (C3.out _ (HC.out _)).mono ?_; rintro e w' ⟨rfl, rfl⟩
      go_wp2_with fail
      refine (C4.out _ (HC.out _)).mono ?_; rintro e w' ⟨rfl, rfl⟩
      go_wp2_with fail
      refine (C5.out _).mono ?_; rintro e w' ⟨rfl, rfl⟩
      go_wp2
      go_ret2
      exact ⟨ret_pair (by unfold paV; rw [if_neg (by rw [HN.out]; exact Bool.false_ne_true)]) (by unfold paE; rw [if_neg (by rw [HN.out]; exact Bool.false_ne_true)]), below_dr w _⟩
  · have HN := Lib.hid (show progB l = false from by
      unfold progB; rw [pd, ph, pm, htd, hth, htm]
      cases td <;> cases th <;> cases tm <;> simp_all)
    clear h l1 l2 hc1 hc2 pd ph pm hvd hvh hvm htd hth htm ka
    cases td with
    | false =>
      clear ok
      go_enter Tryz.func70, Tryz.ntmps70
      go_wp2_with fail
      refine (C0.out _ HM.out).mono ?_; rintro e w' ⟨rfl, n1, rfl⟩
      go_wp2_with fail
      refine (C1.out _ (HM.out.drewN n1)).mono ?_; rintro e w' ⟨rfl, n2, rfl⟩
      go_wp2_with fail
      refine (C2.out _ (HC.out _)).mono ?_; rintro e w' ⟨rfl, rfl⟩
      go_wp2_with fail
      refine (C3.out _ (HC.out _)).mono ?_; rintro e w' ⟨rfl, rfl⟩
      go_wp2_with fail
      refine (C4.out _ (HC.out _)).mono ?_; rintro e w' ⟨rfl, rfl⟩
      go_wp2
      go_ret2
      exact ⟨ret_pair (by unfold paV; rw [if_neg (by rw [HN.out]; exact Bool.false_ne_true)]) (by unfold paE; rw [if_neg (by rw [HN.out]; exact Bool.false_ne_true)]), below_dr w _⟩
    | true =>
      cases th with
      | false =>
        clear ok
        go_enter Tryz.func70, Tryz.ntmps70
        go_wp2_with fail
        refine (C0.out _ HM.out).mono ?_; rintro e w' ⟨rfl, n1, rfl⟩
        go_wp2_with fail
        refine (C1.out _ (HM.out.drewN n1)).mono ?_; rintro e w' ⟨rfl, n2, rfl⟩
        go_wp2_with fail
        refine (C2.out _ (HC.out _)).mono ?_; rintro e w' ⟨rfl, rfl⟩
        go_wp2_with fail
        refine (C3.out _ (HC.out _)).mono ?_; rintro e w' ⟨rfl, rfl⟩
        go_wp2_with fail
        refine (C4.out _ (HC.out _)).mono ?_; rintro e w' ⟨rfl, rfl⟩
        go_wp2
        go_ret2
        exact ⟨ret_pair (by unfold paV; rw [if_neg (by rw [HN.out]; exact Bool.false_ne_true)]) (by unfold paE; rw [if_neg (by rw [HN.out]; exact Bool.false_ne_true)]), below_dr w _⟩
      | true =>
        obtain rfl : tm = false := by cases tm <;> simp_all
        clear ok
        go_enter Tryz.func70, Tryz.ntmps70
        go_wp2_with fail
        refine (C0.out _ HM.out).mono ?_; rintro e w' ⟨rfl, n1, rfl⟩
        go_wp2_with fail
        refine (C1.out _ (HM.out.drewN n1)).mono ?_; rintro e w' ⟨rfl, n2, rfl⟩
        go_wp2_with fail
        refine (C2.out _ (HC.out _)).mono ?_; rintro e w' ⟨rfl, rfl⟩
        go_wp2_with fail
        refine (C3.out _ (HC.out _)).mono ?_; rintro e w' ⟨rfl, rfl⟩
        go_wp2_with fail
        refine (C4.out _ (HC.out _)).mono ?_; rintro e w' ⟨rfl, rfl⟩
        go_wp2
        go_ret2
        exact ⟨ret_pair (by unfold paV; rw [if_neg (by rw [HN.out]; exact Bool.false_ne_true)]) (by unfold paE; rw [if_neg (by rw [HN.out]; exact Bool.false_ne_true)]), below_dr w _⟩
theorem parse_at (s : ByteArray) (l : List UInt8) (hs : s = bs l) (v x : Int) (hv : paV l = v) (hx : paE l = x) (hl : l.length < 4294967281) (w : World) (h : CTabs w) :
    Calls Tryz.prog 70 #[.string s] w fun e w' => e = .returned (.tuple #[.int .i64 v, .int .i64 x]) ∧ Below w.heap.size w w' := by
  subst hs hv hx; exact parse_any l hl w h
end Go.Proofs.YthdjpmiohfaphaaGreatDoor.cal
