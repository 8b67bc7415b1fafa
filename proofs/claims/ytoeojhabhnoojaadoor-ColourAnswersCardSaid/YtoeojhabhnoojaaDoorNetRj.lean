/- The walk of the reference: which kinds join two nodes. No condition. -/
import Derived.Test.YtoeojhabhnoojaaDoorNetA
namespace Go.Proofs.YtoeojhabhnoojaaDoor.net
open Go.RowKit lex aggs kit
set_option maxRecDepth 100000 in
theorem rjoins_is (k : Int) (b : Bool) (hb : decide (1 ≤ k ∧ k ≤ 3) = b) (w : World) :
    Calls Tryd.prog 30 #[.int .i64 k] w fun e w' => e = .returned (.bool b) ∧ w = w' := by
  subst hb
  by_cases h1 : k = 1
  · subst h1
    go_enter Tryd.func30, Tryd.ntmps30
    go_wp2
    go_ret
    exact ⟨rfl, rfl⟩
  · by_cases h2 : k = 2
    · subst h2
      go_enter Tryd.func30, Tryd.ntmps30
      go_wp2
      go_ret
      exact ⟨rfl, rfl⟩
    · by_cases h3 : k = 3
      · subst h3
        go_enter Tryd.func30, Tryd.ntmps30
        go_wp2
        go_ret
        exact ⟨rfl, rfl⟩
      · have e : decide (1 ≤ k ∧ k ≤ 3) = false := decide_eq_false (by omega)
        rw [e]
        have T1 : (k == 1) = false := beq_eq_false_iff_ne.2 h1
        have T2 : (k == 2) = false := beq_eq_false_iff_ne.2 h2
        have T3 : (k == 3) = false := beq_eq_false_iff_ne.2 h3
        clear e h1 h2 h3
        go_enter Tryd.func30, Tryd.ntmps30
        go_wp2
        go_ret
        exact ⟨rfl, rfl⟩
end Go.Proofs.YtoeojhabhnoojaaDoor.net
