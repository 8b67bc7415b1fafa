/- For every list of numbers LexemeNames returns true: the program and the reference agree which strings of some bytes are names. Condition: the listed tables hold what the program's text lays (the card ties that). -/
import Derived.Test.YtoeadafgokdacaaDoorLexB
import Derived.Test.YtoeadafgokdacaaDoorLexR
import Derived.Test.YtoeadafgokdacaaDoorDeck
namespace Go.Proofs.YtoeadafgokdacaaDoor.lex
open Go.RowKit kit deck

set_option maxRecDepth 100000 in
set_option maxHeartbeats 1000000 in
theorem names_walk (a : Option Addr) (len cap : Nat) (zs : List Int) (w : World) (hr : IsRow .i64 w a len cap zs) (h : Tabs w) :
    Calls Tryd.prog 4 #[.slice a len cap] w fun e w' => e = .returned (.bool true) ∧ Below w.heap.size w w' := by
  have hl : len ≤ 9223372036854775807 := by
    rcases hr with ⟨_, h, _⟩ | ⟨_, _, h1, h2, _⟩
    · omega
    · unfold maxLen at h2; omega
  have H := Lib.hid h
  have HR := Lib.hid hr
  clear h hr
  by_cases h4 : len ≤ 400
  · have t1 : decide ((len : Int) ≤ 400) = true := decide_eq_true (by omega)
    have kc := fun (w : World) (c : UInt8) => kit.str1 w c
    go_enter Tryd.func4, Tryd.ntmps4
    go_wp2_with fail
    refine (few_any _ _ _ _ hl).mono ?_; rintro e w' ⟨rfl, rfl⟩
    go_wp2_with fail
    refine (newg_any _ _ _ _).mono ?_; rintro e w1 ⟨rfl, g1⟩
    go_wp2_with fail
    refine (g1.next HR.out 15 (by omega)).mono ?_; rintro e w2 ⟨r, rfl, r0, r1, g2, -⟩
    clear g1 w1
    obtain ⟨k, rfl⟩ := Int.eq_ofNat_of_zero_le r0
    go_wp2_with fail
    go_loopw [4, 5] (fun s i wr => ∃ (t : ByteArray) (k : Nat), s = .string t ∧ i = .int .i64 k ∧ t.size + k ≤ 14 ∧ Game w wr w.heap.size a len cap) (fun _ i _ => (intOf i).toNat)
    case atStart => exact ⟨_, k, rfl, rfl, by have : ({ data := #[] } : ByteArray).size = 0 := rfl; omega, g2⟩
    case round =>
      clear g2 r1
      obtain ⟨t, k, rfl, rfl, hk, g⟩ := hrel
      by_cases hpos : 0 < k
      · go_wp2_with fail
        refine (g.next HR.out 9 (by omega)).mono ?_; rintro e w2 ⟨r, rfl, r0, r1, g2, -⟩
        go_wp2_with fail
        go_roundw
        case rel => exact ⟨_, k - 1, rfl, congrArg _ (by omega), by rw [kit.size1]; omega, g2.alloc _⟩
        case measure => simp [intOf]; omega
      · have hk0 : k = 0 := by omega
        subst hk0
        have hts : t.size ≤ maxLen := by unfold maxLen; omega
        have H1 := Lib.hid (H.out.below g.below)
        go_wp2_with fail
        refine (name_any _ _ H1.out.cls hts).mono ?_; rintro e w' ⟨rfl, rfl⟩
        go_wp2_with fail
        refine (rname_any _ _ hts).mono ?_; rintro e w' ⟨rfl, rfl⟩
        go_wp2_with fail
        refine (awake_any _ H1.out).mono ?_; rintro e w2 ⟨rfl, hb2⟩
        go_wp2
        go_ret
        exact ⟨rfl, g.below.trans (hb2.mono g.below.size)⟩
  · have t1 : decide ((len : Int) ≤ 400) = false := decide_eq_false (by omega)
    go_enter Tryd.func4, Tryd.ntmps4
    go_wp2_with fail
    refine (few_any _ _ _ _ hl).mono ?_; rintro e w' ⟨rfl, rfl⟩
    go_wp2_with fail
    refine (awake_any _ H.out).mono ?_; rintro e w2 ⟨rfl, hb2⟩
    go_wp2
    go_ret
    exact ⟨rfl, hb2⟩
end Go.Proofs.YtoeadafgokdacaaDoor.lex
