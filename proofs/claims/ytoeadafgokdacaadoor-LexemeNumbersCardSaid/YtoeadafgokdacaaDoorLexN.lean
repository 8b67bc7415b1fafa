/- For every n and every most LexemeNumbers returns true: the text of a number is read as this number if it is not too great, and with a zero ahead of it never. Condition: the listed tables hold what the program's text lays (the card ties that). -/
import Derived.Test.YtoeadafgokdacaaDoorLexB
namespace Go.Proofs.YtoeadafgokdacaaDoor.lex
open Go.RowKit

theorem text_as (n : Int) (t : ByteArray) (ht : t = ⟨(Lib.itoa n).toArray⟩) (w : World) (h : Tabs w) (h0 : -9223372036854775808 ≤ n) (h1 : n ≤ 9223372036854775807) :
    Calls Tryd.prog 18 #[.int .i64 n] w fun e w' => e = .returned (.string t) ∧ Below w.heap.size w w' := by
  subst ht; exact text_any n w h h0 h1
theorem number_as (n most : Int) (t : ByteArray) (ht : t = ⟨(Lib.itoa n).toArray⟩) (m : Int) (b : Bool) (hm : (if 0 ≤ n ∧ n ≤ most then n else 0) = m) (hb : (decide (0 ≤ n) && decide (n ≤ most)) = b) (w : World) (h : HasClasses w) (m0 : -9223372036854775808 ≤ most) (m1 : most ≤ 9223372036854775807) (k : t.size ≤ 21) :
    Calls Tryd.prog 11 #[.string t, .int .i64 most] w fun e w' => e = .returned (.tuple #[.int .i64 m, .bool b]) ∧ w = w' :=
  number_at _ most _ _ w h (by unfold maxLen; omega) m0 m1 (by rw [ht]; exact (numV_itoa n most).trans hm) (by rw [ht]; exact (numB_itoa n most).trans hb)
theorem number_zero (n most : Int) (t : ByteArray) (ht : t = ⟨(Lib.itoa n).toArray⟩) (w : World) (h : HasClasses w) (m0 : -9223372036854775808 ≤ most) (m1 : most ≤ 9223372036854775807) (k : t.size ≤ 21) :
    Calls Tryd.prog 11 #[.string ({ data := #[48] } ++ t), .int .i64 most] w fun e w' => e = .returned (.tuple #[.int .i64 0, .bool false]) ∧ w = w' := by
  have e : (({ data := #[48] } : ByteArray) ++ t).data.toList = 48 :: Lib.itoa n := by
    rw [ByteArray.data_append, ht]; simp
  refine number_at _ most _ _ w h ?_ m0 m1 ?_ ?_
  · rw [ByteArray.size_append]; unfold maxLen; have : (ByteArray.mk #[48]).size = 1 := rfl; omega
  · rw [e]; exact numV_no (numB_more n most)
  · rw [e]; exact numB_more n most

set_option maxRecDepth 100000 in
set_option maxHeartbeats 400000 in
theorem numbers_walk (n most : Int) (w : World) (n0 : -9223372036854775808 ≤ n) (n1 : n ≤ 9223372036854775807) (m0 : -9223372036854775808 ≤ most) (m1 : most ≤ 9223372036854775807) (h : Tabs w) :
    Calls Tryd.prog 5 #[.int .i64 n, .int .i64 most] w fun e w' => e = .returned (.bool true) ∧ Below w.heap.size w w' := by
  obtain ⟨t, ht⟩ : ∃ t : ByteArray, t = ⟨(Lib.itoa n).toArray⟩ := ⟨_, rfl⟩
  have hk : t.size ≤ 21 := by rw [ht]; simp only [List.size_toArray, ByteArray.size]; exact itoa_length n n0 n1
  have C1 := Lib.hid (text_as n t ht w h n0 n1)
  have HT := Lib.hid ht
  have H := Lib.hid h
  clear h ht
  by_cases c1 : n < 0
  · have G := Lib.hid (fun w1 h1 => number_as n most t HT.out 0 false (by rw [if_neg (by omega)]) (by rw [decide_eq_false (by omega), Bool.false_and]) w1 h1 m0 m1 hk)
    go_enter Tryd.func5, Tryd.ntmps5
    go_wp2_with fail
    refine C1.out.mono ?_; rintro e w1 ⟨rfl, hb⟩
    have H1 := Lib.hid (H.out.below hb)
    go_wp2_with fail
    refine (G.out _ H1.out.cls).mono ?_; rintro e w' ⟨rfl, rfl⟩
    go_wp2_with fail
    refine (number_zero n most t HT.out _ H1.out.cls m0 m1 hk).mono ?_; rintro e w' ⟨rfl, rfl⟩
    go_wp2_with fail
    refine (awake_any _ H1.out).mono ?_; rintro e w2 ⟨rfl, hb2⟩
    go_wp2
    go_ret
    exact ⟨rfl, hb.trans (hb2.mono hb.size)⟩
  · by_cases c2 : n ≤ most
    · have G := Lib.hid (fun w1 h1 => number_as n most t HT.out n true (by rw [if_pos (by omega)]) (by rw [decide_eq_true (by omega), decide_eq_true (by omega)]; rfl) w1 h1 m0 m1 hk)
      go_enter Tryd.func5, Tryd.ntmps5
      go_wp2_with fail
      refine C1.out.mono ?_; rintro e w1 ⟨rfl, hb⟩
      have H1 := Lib.hid (H.out.below hb)
      go_wp2_with fail
      refine (G.out _ H1.out.cls).mono ?_; rintro e w' ⟨rfl, rfl⟩
      go_wp2_with fail
      refine (number_zero n most t HT.out _ H1.out.cls m0 m1 hk).mono ?_; rintro e w' ⟨rfl, rfl⟩
      go_wp2_with fail
      refine (awake_any _ H1.out).mono ?_; rintro e w2 ⟨rfl, hb2⟩
      go_wp2
      go_ret
      exact ⟨rfl, hb.trans (hb2.mono hb.size)⟩
    · have G := Lib.hid (fun w1 h1 => number_as n most t HT.out 0 false (by rw [if_neg (by omega)]) (by rw [decide_eq_false c2, Bool.and_false]) w1 h1 m0 m1 hk)
      go_enter Tryd.func5, Tryd.ntmps5
      go_wp2_with fail
      refine C1.out.mono ?_; rintro e w1 ⟨rfl, hb⟩
      have H1 := Lib.hid (H.out.below hb)
      go_wp2_with fail
      refine (G.out _ H1.out.cls).mono ?_; rintro e w' ⟨rfl, rfl⟩
      go_wp2_with fail
      refine (number_zero n most t HT.out _ H1.out.cls m0 m1 hk).mono ?_; rintro e w' ⟨rfl, rfl⟩
      go_wp2_with fail
      refine (awake_any _ H1.out).mono ?_; rintro e w2 ⟨rfl, hb2⟩
      go_wp2
      go_ret
      exact ⟨ret_bool (by rw [decide_eq_false (by omega)]; rfl), hb.trans (hb2.mono hb.size)⟩
end Go.Proofs.YtoeadafgokdacaaDoor.lex
