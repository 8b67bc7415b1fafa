/- For any text, words and numbers, of bulk at most the seat's bound, LexemeAnswers returns true: all functions of layer 1 return what the reference returns. Conditions: the bound (two words of more than 2^47 bytes each could not be joined on any machine), the listed tables hold what the program's text lays (the card ties that). -/
import Derived.Test.YtoeadafgokdacaaDoorLexT
import Derived.Test.YtoeadafgokdacaaDoorSame
import Derived.Test.YtoeadafgokdacaaDoorBulk
namespace Go.Proofs.YtoeadafgokdacaaDoor.lex
open Go.RowKit kit strs

theorem wsum_bytes (ss : List ByteArray) : wsum (dataOf ss) = bytesOf ss := by
  induction ss with
  | nil => rfl
  | cons s r ih =>
    have e : dataOf (s :: r) = s.data.toList :: dataOf r := rfl
    rw [e, wsum_cons, ih]
    simp [bytesOf]

set_option maxRecDepth 100000 in
set_option maxHeartbeats 2000000 in
theorem answers_walk (s : ByteArray) (a : Option Addr) (len cap : Nat) (ss : List ByteArray) (n most : Int) (w : World) (hs : s.size ≤ maxLen) (hw : IsStrs w a len cap ss) (hb : bytesOf (ss.take len) ≤ 1048576)
    (n0 : -9223372036854775808 ≤ n) (n1 : n ≤ 9223372036854775807) (m0 : -9223372036854775808 ≤ most) (m1 : most ≤ 9223372036854775807) (h : Tabs w) :
    Calls Tryd.prog 3 #[.string s, .slice a len cap, .int .i64 n, .int .i64 most] w fun e w' => e = .returned (.bool true) ∧ Below w.heap.size w w' := by
  have hl : len ≤ 9223372036854775807 := by
    rcases hw with ⟨_, h, _⟩ | ⟨_, _, h1, h2, _⟩
    · omega
    · unfold maxLen at h2; omega
  have hs2 : s.size ≤ 9223372036854775807 := by unfold maxLen at hs; omega
  have HS := Lib.hid hs
  have H := Lib.hid h
  have HW := Lib.hid hw
  clear h hw hs
  by_cases c1 : 70000 < s.size
  · have t1 : decide (70000 < (s.size : Int)) = true := decide_eq_true (by omega)
    go_enter Tryd.func3, Tryd.ntmps3
    go_wp2_with fail
    refine (awake_any _ H.out).mono ?_; rintro e w2 ⟨rfl, hb2⟩
    go_wp2
    go_ret
    exact ⟨rfl, hb2⟩
  · have t1 : decide (70000 < (s.size : Int)) = false := decide_eq_false (by omega)
    by_cases c2 : 50 < len
    · have t2 : decide (50 < (len : Int)) = true := decide_eq_true (by omega)
      go_enter Tryd.func3, Tryd.ntmps3
      go_wp2_with fail
      refine (awake_any _ H.out).mono ?_; rintro e w2 ⟨rfl, hb2⟩
      go_wp2
      go_ret
      exact ⟨rfl, hb2⟩
    · have t2 : decide (50 < (len : Int)) = false := decide_eq_false (by omega)
      obtain ⟨r, hr⟩ : ∃ r, lines s.data.toList = r := ⟨_, rfl⟩
      obtain ⟨nv, hnv⟩ : ∃ nv, numV s.data.toList most = nv := ⟨_, rfl⟩
      obtain ⟨nb, hnb⟩ : ∃ nb, numB s.data.toList most = nb := ⟨_, rfl⟩
      obtain ⟨mb, hmb⟩ : ∃ mb, nameB s.data.toList = mb := ⟨_, rfl⟩
      obtain ⟨T, hT⟩ : ∃ T, bs (Lib.itoa n) = T := ⟨_, rfl⟩
      obtain ⟨J, hJ⟩ : ∃ J, bs (Lib.join (dataOf (ss.take len)) [32]) = J := ⟨_, rfl⟩
      have k1 := fun w h => lines_any s w h HS.out
      have k2 := fun w => rlines_any s w HS.out
      have k3 := fun w h => number_any s most w h HS.out m0 m1
      have k4 := fun w => rnumber_any s most w HS.out m0 m1
      have k5 := fun w h => name_any s w h HS.out
      have k6 := fun w => rname_any s w HS.out
      have k7 := fun w h => text_any n w h n0 n1
      have k8 := fun w => rtext_any n w n0 n1
      have k9 := fun (w' : World) (hw' : IsStrs w' a len cap ss) => ajoin_any hw' (by omega) (by rw [wsum_bytes]; omega)
      have k10 := fun (w' : World) (hw' : IsStrs w' a len cap ss) => rjoin_any hw' (by omega) (by rw [wsum_bytes]; omega)
      simp only [hr] at k1 k2
      simp only [hnv, hnb] at k3 k4
      simp only [hmb] at k5 k6
      have hT2 : (⟨(Lib.itoa n).toArray⟩ : ByteArray) = T := hT
      simp only [hT2] at k7
      simp only [hT] at k8
      simp only [hJ] at k9 k10
      have K1 := Lib.hid k1
      have K2 := Lib.hid k2
      have K3 := Lib.hid k3
      have K4 := Lib.hid k4
      have K5 := Lib.hid k5
      have K6 := Lib.hid k6
      have K7 := Lib.hid k7
      have K8 := Lib.hid k8
      have K9 := Lib.hid k9
      have K10 := Lib.hid k10
      clear k1 k2 k3 k4 k5 k6 k7 k8 k9 k10 hr hnv hnb hmb hT hT2 hJ
      go_enter Tryd.func3, Tryd.ntmps3
      go_wp2_with fail
      refine (K1.out _ H.out.cls).mono ?_; rintro e w1 ⟨va, rfl, sa, b1⟩
      have H1 := Lib.hid (H.out.below b1)
      go_wp2_with fail
      refine (K2.out _).mono ?_; rintro e w2 ⟨vb, rfl, sb, b2'⟩
      have H2 := Lib.hid (H1.out.below b2')
      have sa2 := sa.below b2'
      have b2 := b1.trans (b2'.mono b1.size)
      clear sa b1 b2'
      go_wp2_with fail
      refine (K3.out _ H2.out.cls).mono ?_; rintro e w' ⟨rfl, rfl⟩
      go_wp2_with fail
      refine (K4.out _).mono ?_; rintro e w' ⟨rfl, rfl⟩
      go_wp2_with fail
      refine (K5.out _ H2.out.cls).mono ?_; rintro e w' ⟨rfl, rfl⟩
      go_wp2_with fail
      refine (K6.out _).mono ?_; rintro e w' ⟨rfl, rfl⟩
      go_wp2_with fail
      refine (words_any s _ H2.out.cls (by omega)).mono ?_; rintro e w3 ⟨vc, rfl, sc, b3'⟩
      have H3 := Lib.hid (H2.out.below b3')
      have sa3 := sa2.below b3'
      have sb3 := sb.below b3'
      have b3 := b2.trans (b3'.mono b2.size)
      clear sa2 sb b2 b3'
      go_wp2_with fail
      refine (rwords_any s _ (by omega)).mono ?_; rintro e w4 ⟨vd, rfl, sd, b4'⟩
      have H4 := Lib.hid (H3.out.below b4')
      have sa4 := sa3.below b4'
      have sb4 := sb3.below b4'
      have sc4 := sc.below b4'
      have b4 := b3.trans (b4'.mono b3.size)
      clear sa3 sb3 sc b3 b4'
      go_wp2_with fail
      refine (same_any sc4 sd).mono ?_; rintro e w5 ⟨rfl, b5'⟩
      have H5 := Lib.hid (H4.out.below b5')
      have sa5 := sa4.below b5'
      have sb5 := sb4.below b5'
      have b5 := b4.trans (b5'.mono b4.size)
      clear sa4 sb4 sc4 sd b4 b5'
      go_wp2_with fail
      refine (same_any sa5 sb5).mono ?_; rintro e w6 ⟨rfl, b6'⟩
      have H6 := Lib.hid (H5.out.below b6')
      have b6 := b5.trans (b6'.mono b5.size)
      clear sa5 sb5 b5 b6'
      go_wp2_with fail
      refine (K7.out _ H6.out).mono ?_; rintro e w7 ⟨rfl, b7'⟩
      have H7 := Lib.hid (H6.out.below b7')
      have b7 := b6.trans (b7'.mono b6.size)
      clear b6 b7'
      go_wp2_with fail
      refine (K8.out _).mono ?_; rintro e w8 ⟨rfl, b8'⟩
      have H8 := Lib.hid (H7.out.below b8')
      have b8 := b7.trans (b8'.mono b7.size)
      clear b7 b8'
      go_wp2_with fail
      refine (K9.out _ (HW.out.below b8)).mono ?_; rintro e w9 ⟨rfl, b9'⟩
      have H9 := Lib.hid (H8.out.below b9')
      have b9 := b8.trans (b9'.mono b8.size)
      clear b8 b9'
      go_wp2_with fail
      refine (K10.out _ (HW.out.below b9)).mono ?_; rintro e w' ⟨rfl, rfl⟩
      go_wp2_with fail
      refine (awake_any _ H9.out).mono ?_; rintro e w10 ⟨rfl, b10'⟩
      go_wp2
      go_ret
      exact ⟨rfl, b9.trans (b10'.mono b9.size)⟩
end Go.Proofs.YtoeadafgokdacaaDoor.lex
