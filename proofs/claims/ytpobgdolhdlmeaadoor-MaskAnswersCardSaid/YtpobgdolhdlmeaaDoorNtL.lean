/- The walk of Light: a network that was handed in has at most 40 nodes and 80 devices. No condition. -/
import Derived.Test.YtpobgdolhdlmeaaDoorNetQ
namespace Go.Proofs.YtpobgdolhdlmeaaDoor.net
open Go.RowKit lex aggs kit deck
set_option maxRecDepth 100000 in
set_option maxHeartbeats 2000000 in
theorem light_is (a b : Option Addr) (N c M d : Nat) (ns : List Nd) (ds : List Dv) (w : World) (h : NetIn w a b N c M d ns ds) :
    Calls Tryd.prog 8 #[.agg #[.slice a N c, .slice b M d]] w fun e w' => (∃ r : Bool, e = .returned (.bool r)) ∧ Below w.heap.size w w' := by
  have bx := below_box w (.cells #[.slice a N c, .slice b M d] 26)
  have NT := Lib.hid (NtAt.new w (.slice a N c) (.slice b M d) 26)
  have hb := Lib.hid (h.below bx)
  obtain ⟨E, hE⟩ : ∃ E, chk ns ds = E := ⟨_, rfl⟩
  have CK := Lib.hid (rcheck_is a b N c M d ns ds E _ hb.out hE)
  have BX := Lib.hid bx
  clear bx hE h
  obtain ⟨p1, hp1⟩ : ∃ p, decide ((N : Int) ≤ 40) = p := ⟨_, rfl⟩
  obtain ⟨p2, hp2⟩ : ∃ p, decide ((M : Int) ≤ 14) = p := ⟨_, rfl⟩
  obtain ⟨p3, hp3⟩ : ∃ p, decide ((N : Int) ≤ 100) = p := ⟨_, rfl⟩
  obtain ⟨p4, hp4⟩ : ∃ p, decide ((M : Int) ≤ 200) = p := ⟨_, rfl⟩
  by_cases e0 : p1 = true ∧ p2 = true
  · obtain ⟨rfl, rfl⟩ := e0
    go_enter Tryd.func8, Tryd.ntmps8
    go_wp2
    go_ret
    exact ⟨⟨_, rfl⟩, BX.out⟩
  · have e1 : p1 = false ∨ p1 = true ∧ p2 = false := by cases p1 <;> cases p2 <;> simp_all
    clear e0
    by_cases eE : E = 0
    · subst eE
      rcases e1 with rfl | ⟨rfl, rfl⟩
      all_goals (
        go_enter Tryd.func8, Tryd.ntmps8
        go_wp2_with fail
        refine CK.out.mono ?_; rintro e w2 ⟨rfl, b2⟩
        have B2 := Lib.hid (BX.out.trans (b2.mono BX.out.size))
        clear b2
        go_wp2
        go_ret
        exact ⟨⟨_, rfl⟩, B2.out⟩)
    · have T := bne_t eE
      clear eE
      rcases e1 with rfl | ⟨rfl, rfl⟩
      all_goals (cases p3)
      all_goals (cases p4)
      all_goals (
        go_enter Tryd.func8, Tryd.ntmps8
        go_wp2_with fail
        refine CK.out.mono ?_; rintro e w2 ⟨rfl, b2⟩
        have B2 := Lib.hid (BX.out.trans (b2.mono BX.out.size))
        obtain ⟨k1, k2, k3⟩ := NT.out.below b2 NT.out.2.2
        clear b2
        go_wp2
        go_ret
        exact ⟨⟨_, rfl⟩, B2.out⟩)
end Go.Proofs.YtpobgdolhdlmeaaDoor.net
