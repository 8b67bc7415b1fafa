/- For any numbers and texts CalendarAnswers returns true: Make, Split, Print, Parse and Shift return what the reference returns. Condition: the listed tables hold what the program's text lays (the card ties that). -/
import Derived.Test.YticehhmfbpjamaaDoorCalRC
import Derived.Test.YticehhmfbpjamaaDoorCalT
namespace Go.Proofs.YticehhmfbpjamaaDoor.cal
open Go.RowKit strs lex

def spD (t : Int) : Int := if isTm t then t / 1440 else 0
def spH (t : Int) : Int := if isTm t then t % 1440 / 60 else 0
def spM (t : Int) : Int := if isTm t then t % 60 else 0
def prT (t : Int) : List UInt8 := if isTm t then timeText t else []
def prE (t : Int) : Int := if isTm t then 0 else 11
theorem split_is (t d h m : Int) (b : Bool) (hd : spD t = d) (hh : spH t = h) (hm : spM t = m) (hb : isTm t = b) (w : World) :
    Calls Tryd.prog 13 #[.int .i64 t] w fun e w' => e = .returned (.tuple #[.int .i64 d, .int .i64 h, .int .i64 m, .bool b]) ∧ w = w' := by
  subst hd hh hm hb
  unfold spD spH spM
  by_cases ho : isTm t = true
  · rw [if_pos ho, if_pos ho, if_pos ho, ho]; exact split_ok t ho w
  · rw [if_neg ho, if_neg ho, if_neg ho, Bool.eq_false_iff.2 ho]; exact split_no t (Bool.eq_false_iff.2 ho) w
theorem rsplit_is (t d h m : Int) (b : Bool) (hd : spD t = d) (hh : spH t = h) (hm : spM t = m) (hb : isTm t = b) (w : World) :
    Calls Tryd.prog 14 #[.int .i64 t] w fun e w' => e = .returned (.tuple #[.int .i64 d, .int .i64 h, .int .i64 m, .bool b]) ∧ w = w' := by
  subst hd hh hm hb
  unfold spD spH spM
  by_cases ho : isTm t = true
  · rw [if_pos ho, if_pos ho, if_pos ho, ho]; exact rsplit_ok t ho w
  · rw [if_neg ho, if_neg ho, if_neg ho, Bool.eq_false_iff.2 ho]; exact rsplit_no t (Bool.eq_false_iff.2 ho) w
theorem print_is (t q : Int) (s : ByteArray) (hs : bs (prT t) = s) (hq : prE t = q) (w : World) (h : Tabs w) :
    Calls Tryd.prog 15 #[.int .i64 t] w fun e w' => e = .returned (.tuple #[.string s, .int .i64 q]) ∧ Below w.heap.size w w' := by
  subst hs hq
  unfold prT prE
  by_cases ho : isTm t = true
  · rw [if_pos ho, if_pos ho]; exact print_ok t ho w h
  · rw [if_neg ho, if_neg ho]; exact print_no t (Bool.eq_false_iff.2 ho) w
theorem rprint_is (t q : Int) (s : ByteArray) (hs : bs (prT t) = s) (hq : prE t = q) (w : World) :
    Calls Tryd.prog 16 #[.int .i64 t] w fun e w' => e = .returned (.tuple #[.string s, .int .i64 q]) ∧ Below w.heap.size w w' := by
  subst hs hq
  unfold prT prE
  by_cases ho : isTm t = true
  · rw [if_pos ho, if_pos ho]; exact rprint_ok t ho w
  · rw [if_neg ho, if_neg ho]; exact rprint_no t (Bool.eq_false_iff.2 ho) w
theorem cell_row2 (w0 : World) (g : Nat) (hg : g = w0.heap.size) (x y : Int) (t : Nat) : ∀ m, m < 2 → (w0.alloc (.cells #[.int .i64 x, .int .i64 y] t)).cell? ⟨g, m, none⟩ = some (.int .i64 ([x, y].getD m 0)) := by
  subst hg
  intro m hm
  have h0 : m = 0 ∨ m = 1 := by omega
  rcases h0 with rfl | rfl <;> simp

set_option maxRecDepth 100000 in
set_option maxHeartbeats 4000000 in
theorem answers_walk (dy hr mi t ho : Int) (s : ByteArray) (w : World) (d0 : -9223372036854775808 ≤ dy) (d1 : dy ≤ 9223372036854775807) (h0 : -9223372036854775808 ≤ hr) (h1 : hr ≤ 9223372036854775807) (m0 : -9223372036854775808 ≤ mi) (m1 : mi ≤ 9223372036854775807)
    (t0 : -9223372036854775808 ≤ t) (t1 : t ≤ 9223372036854775807) (o0 : -9223372036854775808 ≤ ho) (o1 : ho ≤ 9223372036854775807) (hs : s.size ≤ maxLen) (h : CTabs w) :
    Calls Tryd.prog 3 #[.int .i64 dy, .int .i64 hr, .int .i64 mi, .int .i64 t, .int .i64 ho, .string s] w fun e w' => e = .returned (.bool true) ∧ Below w.heap.size w w' := by
  have H := Lib.hid h
  clear h
  unfold maxLen at hs
  by_cases c : 200 < s.size
  · have tc : decide (200 < (s.size : Int)) = true := decide_eq_true (by omega)
    clear d0 d1 h0 h1 m0 m1 t0 t1 o0 o1
    go_enter Tryd.func3, Tryd.ntmps3
    go_wp2_with fail
    refine (awake_any _ H.out).mono ?_; rintro e w1 ⟨rfl, b1⟩
    go_wp2
    go_ret
    exact ⟨rfl, b1⟩
  · have tc : decide (200 < (s.size : Int)) = false := decide_eq_false (by omega)
    obtain ⟨vp, hvp⟩ : ∃ v, paV s.data.toList = v := ⟨_, rfl⟩
    obtain ⟨ep, hep⟩ : ∃ v, paE s.data.toList = v := ⟨_, rfl⟩
    have P1 := Lib.hid (fun w h => parse_at s s.data.toList (bs_of s).symm vp ep hvp hep (by have : s.data.toList.length = s.size := by simp
                                                                                             omega) w h)
    have P2 := Lib.hid (fun w => rparse_at s s.data.toList (bs_of s).symm vp ep hvp hep (by have : s.data.toList.length = s.size := by simp
                                                                                            omega) w)
    obtain ⟨v1, hv1⟩ : ∃ v, mkV dy hr mi = v := ⟨_, rfl⟩
    obtain ⟨e1, he1⟩ : ∃ v, mkE dy hr mi = v := ⟨_, rfl⟩
    have A1 := Lib.hid (fun w => make_is dy hr mi v1 e1 hv1 he1 w)
    have B1 := Lib.hid (fun w => rmake_is dy hr mi v1 e1 hv1 he1 w)
    have M1 := Lib.hid (fun w => mod_any dy 12000 w (by omega) (by omega) d0 d1)
    have M2 := Lib.hid (fun w => mod_any hr 26 w (by omega) (by omega) h0 h1)
    have M3 := Lib.hid (fun w => mod_any mi 62 w (by omega) (by omega) m0 m1)
    have M4 := Lib.hid (fun w => mod_any t 16777218 w (by omega) (by omega) t0 t1)
    have M5 := Lib.hid (fun w => mod_any ho 27 w (by omega) (by omega) o0 o1)
    clear hvp hep hv1 he1 c d0 d1 h0 h1 m0 m1 t0 t1
    go_enter Tryd.func3, Tryd.ntmps3
    go_wp2_with fail
    refine (M1.out _).mono ?_; rintro e w' ⟨r1, rfl, r10, r11, rfl⟩
    go_wp2_with fail
    refine (M2.out _).mono ?_; rintro e w' ⟨r2, rfl, r20, r21, rfl⟩
    go_wp2_with fail
    refine (M3.out _).mono ?_; rintro e w' ⟨r3, rfl, r30, r31, rfl⟩
    obtain ⟨v2, hv2⟩ : ∃ v, mkV r1 (r2 - 1) (r3 - 1) = v := ⟨_, rfl⟩
    obtain ⟨e2, he2⟩ : ∃ v, mkE r1 (r2 - 1) (r3 - 1) = v := ⟨_, rfl⟩
    have A2 := Lib.hid (fun w => make_is r1 (r2 - 1) (r3 - 1) v2 e2 hv2 he2 w)
    have B2 := Lib.hid (fun w => rmake_is r1 (r2 - 1) (r3 - 1) v2 e2 hv2 he2 w)
    clear hv2 he2
    go_wp2
    refine wp_loop_rounds 3 ?_
    rw [rounds_succ]
    go_wp2_with fail
    refine (A1.out _).mono ?_; rintro e w' ⟨rfl, rfl⟩
    go_wp2_with fail
    refine (B1.out _).mono ?_; rintro e w' ⟨rfl, rfl⟩
    go_wp2
    rw [rounds_succ]
    go_wp2_with fail
    refine (A2.out _).mono ?_; rintro e w' ⟨rfl, rfl⟩
    go_wp2_with fail
    refine (B2.out _).mono ?_; rintro e w' ⟨rfl, rfl⟩
    go_wp2
    rw [rounds_succ]
    go_wp2_with fail
    refine (M4.out _).mono ?_; rintro e w' ⟨r4, rfl, r40, r41, rfl⟩
    go_wp2
    go_loopw [100] (fun i wr => ∃ k : Nat, k ≤ 2 ∧ i = .int .i64 k ∧ Below w.heap.size w wr ∧ Hid (∀ m, m < 2 → wr.cell? ⟨w.heap.size + 3, m, none⟩ = some (.int .i64 ([t, r4].getD m 0)))) (fun i _ => 2 - (intOf i).toNat)
    case atStart =>
      refine ⟨0, by omega, rfl, ?_, ?_⟩
      · exact ((((Below.refl _ _).alloc (Nat.le_refl _) _).alloc (by simp) _).alloc (by simp; omega) _).alloc (by simp; omega) _
      · exact cell_row2 _ _ (by simp) t r4 _
    case round =>
      obtain ⟨k, hk, rfl, bel, hc⟩ := hrel
      have HK := Lib.hid (H.out.below bel)
      by_cases hlt : k < 2
      · obtain ⟨x, hx⟩ : ∃ x, [t, r4].getD k 0 = x := ⟨_, rfl⟩
        have cell := hc.out k hlt
        rw [hx] at cell
        clear hx
        obtain ⟨a1, ha1⟩ : ∃ v, spD x = v := ⟨_, rfl⟩
        obtain ⟨a2, ha2⟩ : ∃ v, spH x = v := ⟨_, rfl⟩
        obtain ⟨a3, ha3⟩ : ∃ v, spM x = v := ⟨_, rfl⟩
        obtain ⟨a4, ha4⟩ : ∃ v, isTm x = v := ⟨_, rfl⟩
        obtain ⟨sp, hsp⟩ : ∃ v, bs (prT x) = v := ⟨_, rfl⟩
        obtain ⟨qp, hqp⟩ : ∃ v, prE x = v := ⟨_, rfl⟩
        have D1 := Lib.hid (fun w => split_is x a1 a2 a3 a4 ha1 ha2 ha3 ha4 w)
        have D2 := Lib.hid (fun w => rsplit_is x a1 a2 a3 a4 ha1 ha2 ha3 ha4 w)
        have D3 := Lib.hid (fun w h => print_is x qp sp hsp hqp w h)
        have D4 := Lib.hid (fun w => rprint_is x qp sp hsp hqp w)
        have teq : (!sp.toList == sp.toList) = false := by simp
        clear ha1 ha2 ha3 ha4 hsp hqp
        go_wp2_with fail
        refine (D1.out _).mono ?_; rintro e w5 ⟨rfl, rfl⟩
        go_wp2_with fail
        refine (D2.out _).mono ?_; rintro e w5 ⟨rfl, rfl⟩
        go_wp2_with fail
        refine (D3.out _ HK.out.tabs).mono ?_; rintro e w5 ⟨rfl, b5⟩
        go_wp2_with fail
        refine (D4.out _).mono ?_; rintro e w6 ⟨rfl, b6⟩
        have BB := Lib.hid (bel.trans ((b5.trans (b6.mono b5.size)).mono bel.size))
        have CC := Lib.hid (b5.trans (b6.mono b5.size))
        have CX : Hid (∀ m, m < 2 → w6.cell? ⟨w.heap.size + 3, m, none⟩ = some (.int .i64 ([t, r4].getD m 0))) := by
          intro m hm
          rw [CC.out.cell (World.block_lt_of_cell? _ _ (hc.out m hm))]
          exact hc.out m hm
        clear b5 b6
        go_wp2_with fail
        refine (M5.out _).mono ?_; rintro e w7 ⟨r5, rfl, r50, r51, rfl⟩
        go_wp2
        go_loopw [162] (fun i wr => ∃ k3 : Nat, k3 ≤ 2 ∧ i = .int .i64 k3 ∧ Below w.heap.size w wr ∧ Hid (∀ m, m < 2 → wr.cell? ⟨w.heap.size + 3, m, none⟩ = some (.int .i64 ([t, r4].getD m 0))) ∧ Hid (∀ m, m < 2 → wr.cell? ⟨w6.heap.size, m, none⟩ = some (.int .i64 ([ho, r5 - 1].getD m 0)))) (fun i _ => 2 - (intOf i).toNat)
        case atStart =>
          refine ⟨0, by omega, rfl, ?_, ?_, ?_⟩
          · exact BB.out.alloc BB.out.size _
          · intro m hm
            exact ((Below.refl _ w6).alloc (Nat.le_refl _) _).cell (World.block_lt_of_cell? _ _ (CX.out m hm)) |>.trans (CX.out m hm)
          · exact cell_row2 _ _ (by simp) ho (r5 - 1) _
        case round =>
          obtain ⟨k3, hk3, rfl, bel3, hc3, hd3⟩ := hrel
          have HK3 := Lib.hid (H.out.below bel3)
          by_cases hlt3 : k3 < 2
          · obtain ⟨y, hy⟩ : ∃ y, [ho, r5 - 1].getD k3 0 = y := ⟨_, rfl⟩
            have cell3 := hd3.out k3 hlt3
            rw [hy] at cell3
            have y0 : -9223372036854775808 ≤ y ∧ y ≤ 9223372036854775807 := by
              rw [← hy]
              have hk4 : k3 = 0 ∨ k3 = 1 := by omega
              rcases hk4 with rfl | rfl
              · exact ⟨o0, o1⟩
              · show -9223372036854775808 ≤ r5 - 1 ∧ r5 - 1 ≤ 9223372036854775807
                omega
            clear hy
            obtain ⟨v3, hv3⟩ : ∃ v, shV x y = v := ⟨_, rfl⟩
            obtain ⟨q3, hq3⟩ : ∃ v, shE x y = v := ⟨_, rfl⟩
            have F1 := Lib.hid (fun w => shift_is x y v3 q3 hv3 hq3 y0.1 y0.2 w)
            have F2 := Lib.hid (fun w => rshift_is x y v3 q3 hv3 hq3 w)
            clear hv3 hq3 y0
            go_wp2_with fail
            refine (F1.out _).mono ?_; rintro e w8 ⟨rfl, b8⟩
            have B8 := Lib.hid (bel3.trans (b8.mono bel3.size))
            have C8 : Hid (∀ m, m < 2 → w8.cell? ⟨w.heap.size + 3, m, none⟩ = some (.int .i64 ([t, r4].getD m 0))) := by
              intro m hm
              rw [b8.cell (World.block_lt_of_cell? _ _ (hc3.out m hm))]
              exact hc3.out m hm
            have E8 : Hid (∀ m, m < 2 → w8.cell? ⟨w6.heap.size, m, none⟩ = some (.int .i64 ([ho, r5 - 1].getD m 0))) := by
              intro m hm
              rw [b8.cell (World.block_lt_of_cell? _ _ (hd3.out m hm))]
              exact hd3.out m hm
            clear b8
            go_wp2_with fail
            refine (F2.out _).mono ?_; rintro e w9 ⟨rfl, rfl⟩
            go_wp2
            go_roundw
            case rel => exact ⟨k3 + 1, by omega, by go_num, B8.out, C8, E8⟩
            case measure => simp [intOf]; omega
          · go_wp2
            go_roundw
            case rel => exact ⟨k + 1, by omega, by go_num, bel3, hc3⟩
            case measure => simp [intOf]; omega
      · go_wp2_with fail
        refine (P1.out _ HK.out).mono ?_; rintro e w5 ⟨rfl, b5⟩
        go_wp2_with fail
        refine (P2.out _).mono ?_; rintro e w6 ⟨rfl, b6⟩
        have BB := Lib.hid (bel.trans ((b5.trans (b6.mono b5.size)).mono bel.size))
        have H6 := Lib.hid (H.out.below BB.out)
        clear b5 b6
        go_wp2_with fail
        refine (awake_any _ H6.out).mono ?_; rintro e w7 ⟨rfl, b7⟩
        go_wp2
        go_ret
        exact ⟨rfl, BB.out.trans (b7.mono BB.out.size)⟩
end Go.Proofs.YticehhmfbpjamaaDoor.cal
