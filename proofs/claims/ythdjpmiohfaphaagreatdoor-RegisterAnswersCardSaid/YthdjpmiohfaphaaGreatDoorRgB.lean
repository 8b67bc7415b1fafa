/- The walks of the reference of layer 5: a person's error, Check. They compute what the plain facts say. No condition. -/
import Derived.Test.YthdjpmiohfaphaaGreatDoorRgA
namespace Go.Proofs.YthdjpmiohfaphaaGreatDoor.reg
open Go.RowKit lex aggs kit net

theorem rname_is (s : ByteArray) (b : Bool) (w : World) (hs : s.size ≤ maxLen) (hb : nameB s.data.toList = b) :
    Calls Tryz.prog 47 #[.string s] w fun e w' => e = .returned (.bool b) ∧ w = w' := by
  subst hb; exact rname_any s w hs
/-- a person's five cells -/
def PnAt (w : World) (g : Nat) (p : Pn) : Prop := w.cell? ⟨g, 0, none⟩ = some (.string p.nm) ∧ w.cell? ⟨g, 1, none⟩ = some (.int .i64 p.co) ∧ w.cell? ⟨g, 2, none⟩ = some (.int .i64 p.sk) ∧ w.cell? ⟨g, 3, none⟩ = some (.int .i64 p.fr) ∧ w.cell? ⟨g, 4, none⟩ = some (.int .i64 p.un) ∧ g < w.heap.size
theorem PnAt.below {w w' : World} {g B : Nat} {p : Pn} (h : PnAt w g p) (hb : Below B w w') (hB : g < B) : PnAt w' g p :=
  ⟨by rw [hb.cell (p := ⟨g, 0, none⟩) hB]; exact h.1, by rw [hb.cell (p := ⟨g, 1, none⟩) hB]; exact h.2.1, by rw [hb.cell (p := ⟨g, 2, none⟩) hB]; exact h.2.2.1, by rw [hb.cell (p := ⟨g, 3, none⟩) hB]; exact h.2.2.2.1, by rw [hb.cell (p := ⟨g, 4, none⟩) hB]; exact h.2.2.2.2.1, Nat.lt_of_lt_of_le h.2.2.2.2.2 hb.size⟩
theorem PnAt.new (w : World) (p : Pn) (T : Nat) : PnAt (w.alloc (.cells #[.string p.nm, .int .i64 p.co, .int .i64 p.sk, .int .i64 p.fr, .int .i64 p.un] T)) w.heap.size p := by
  refine ⟨?_, ?_, ?_, ?_, ?_, by simp⟩
  all_goals (rw [World.cell?_alloc_new]; rfl)
set_option maxRecDepth 100000 in
theorem rfault_is (p : Pn) (r : Int) (w : World) (hs : p.nm.size ≤ maxLen) (hr : pnE p = r) :
    Calls Tryz.prog 29 #[pnV p] w fun e w' => e = .returned (.int .i64 r) ∧ Below w.heap.size w w' := by
  have bx := Lib.hid (below_box w (.cells #[.string p.nm, .int .i64 p.co, .int .i64 p.sk, .int .i64 p.fr, .int .i64 p.un] 27))
  have NM := Lib.hid (fun b hb W => rname_is p.nm b W hs hb)
  have VA := Lib.hid (fun b hb W => rvalid_is p.fr p.un b hb W)
  obtain ⟨nm, co, sk, fr, un⟩ := p
  unfold pnE at hr
  unfold pnV
  dsimp only at hr NM VA ⊢
  cases hb : nameB nm.data.toList with
  | false =>
    rw [if_pos hb] at hr
    subst hr
    go_enter Tryz.func29, Tryz.ntmps29
    go_wp2_with fail
    refine (NM.out _ hb _).mono ?_; rintro e w' ⟨rfl, rfl⟩
    go_wp2
    go_ret
    exact ⟨rfl, bx.out⟩
  | true =>
    have HB := Lib.hid hb
    rw [if_neg (by rw [hb]; simp)] at hr
    clear hb
    by_cases h1 : (0 ≤ co ∧ co ≤ 7) ∧ 0 ≤ sk ∧ sk ≤ 31
    · rw [if_neg (fun h => h h1)] at hr
      have T1 : decide (co < 0) = false := decide_eq_false (by omega)
      have T2 : decide (7 < co) = false := decide_eq_false (by omega)
      have T3 : decide (sk < 0) = false := decide_eq_false (by omega)
      have T4 : decide (31 < sk) = false := decide_eq_false (by omega)
      clear h1
      by_cases h2 : 0 ≤ fr ∧ fr < un ∧ un ≤ 16777216
      · rw [if_neg (fun h => h h2)] at hr
        subst hr
        have HV := Lib.hid (decide_eq_true h2)
        clear h2
        go_enter Tryz.func29, Tryz.ntmps29
        go_wp2_with fail
        refine (NM.out _ HB.out _).mono ?_; rintro e w' ⟨rfl, rfl⟩
        go_wp2_with fail
        refine (VA.out _ HV.out _).mono ?_; rintro e w2 ⟨rfl, b2⟩
        have B2 := Lib.hid (bx.out.trans (b2.mono bx.out.size))
        clear b2
        go_wp2
        go_ret
        exact ⟨rfl, B2.out⟩
      · rw [if_pos h2] at hr
        subst hr
        have HV := Lib.hid (decide_eq_false h2)
        clear h2
        go_enter Tryz.func29, Tryz.ntmps29
        go_wp2_with fail
        refine (NM.out _ HB.out _).mono ?_; rintro e w' ⟨rfl, rfl⟩
        go_wp2_with fail
        refine (VA.out _ HV.out _).mono ?_; rintro e w2 ⟨rfl, b2⟩
        have B2 := Lib.hid (bx.out.trans (b2.mono bx.out.size))
        clear b2
        go_wp2
        go_ret
        exact ⟨rfl, B2.out⟩
    · rw [if_pos h1] at hr
      subst hr
      by_cases c0 : 0 ≤ co
      · by_cases c1 : co ≤ 7
        · by_cases s0 : 0 ≤ sk
          · have s1 : ¬ sk ≤ 31 := fun s1 => h1 ⟨⟨c0, c1⟩, s0, s1⟩
            have T1 : decide (co < 0) = false := decide_eq_false (by omega)
            have T2 : decide (7 < co) = false := decide_eq_false (by omega)
            have T3 : decide (sk < 0) = false := decide_eq_false (by omega)
            have T4 : decide (31 < sk) = true := decide_eq_true (by omega)
            clear h1 c0 c1 s0 s1
            go_enter Tryz.func29, Tryz.ntmps29
            go_wp2_with fail
            refine (NM.out _ HB.out _).mono ?_; rintro e w' ⟨rfl, rfl⟩
            go_wp2
            go_ret
            exact ⟨rfl, bx.out⟩
          · have T1 : decide (co < 0) = false := decide_eq_false (by omega)
            have T2 : decide (7 < co) = false := decide_eq_false (by omega)
            have T3 : decide (sk < 0) = true := decide_eq_true (by omega)
            clear h1 c0 c1 s0
            go_enter Tryz.func29, Tryz.ntmps29
            go_wp2_with fail
            refine (NM.out _ HB.out _).mono ?_; rintro e w' ⟨rfl, rfl⟩
            go_wp2
            go_ret
            exact ⟨rfl, bx.out⟩
        · have T1 : decide (co < 0) = false := decide_eq_false (by omega)
          have T2 : decide (7 < co) = true := decide_eq_true (by omega)
          clear h1 c0 c1
          go_enter Tryz.func29, Tryz.ntmps29
          go_wp2_with fail
          refine (NM.out _ HB.out _).mono ?_; rintro e w' ⟨rfl, rfl⟩
          go_wp2
          go_ret
          exact ⟨rfl, bx.out⟩
      · have T1 : decide (co < 0) = true := decide_eq_true (by omega)
        clear h1 c0
        go_enter Tryz.func29, Tryz.ntmps29
        go_wp2_with fail
        refine (NM.out _ HB.out _).mono ?_; rintro e w' ⟨rfl, rfl⟩
        go_wp2
        go_ret
        exact ⟨rfl, bx.out⟩
end Go.Proofs.YthdjpmiohfaphaaGreatDoor.reg
