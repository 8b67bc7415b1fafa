/- The walks of layer 3 on one network: Check and what it calls. Condition: the table 'classes' holds what its text lays. -/
import Derived.Test.YtoeojhabhnoojaaDoorNetA
namespace Go.Proofs.YtoeojhabhnoojaaDoor.net
open Go.RowKit lex aggs kit

set_option maxRecDepth 100000 in
theorem isNode_is (a : Option Addr) (N c : Nat) (x : Value) (v : Int) (r : Bool) (w : World) (hr : ndB N v = r) (_hl : N ≤ maxLen) (_v0 : -9223372036854775808 ≤ v) (_v1 : v ≤ 9223372036854775807) :
    Calls Tryd.prog 80 #[.agg #[.slice a N c, x], .int .i64 v] w fun e w' => e = .returned (.bool r) ∧ w' = w.alloc (.cells #[.slice a N c, x] 26) := by
  unfold maxLen at _hl
  subst hr
  by_cases h0 : 0 ≤ v
  · by_cases h1 : v < N
    · have e : ndB N v = true := decide_eq_true ⟨h0, h1⟩
      rw [e]
      clear e
      go_enter Tryd.func80, Tryd.ntmps80
      go_wp2
      go_ret
      exact ⟨rfl, rfl⟩
    · have e : ndB N v = false := decide_eq_false (fun h => h1 h.2)
      rw [e]
      clear e
      go_enter Tryd.func80, Tryd.ntmps80
      go_wp2
      go_ret
      exact ⟨rfl, rfl⟩
  · have e : ndB N v = false := decide_eq_false (fun h => h0 h.1)
    rw [e]
    clear e
    go_enter Tryd.func80, Tryd.ntmps80
    go_wp2
    go_ret
    exact ⟨rfl, rfl⟩
/-- a device's five cells -/
def DvAt (w : World) (g : Nat) (d : Dv) : Prop := w.cell? ⟨g, 0, none⟩ = some (.string d.nm) ∧ w.cell? ⟨g, 1, none⟩ = some (.int .i64 d.ki) ∧ w.cell? ⟨g, 2, none⟩ = some (.int .i64 d.a) ∧ w.cell? ⟨g, 3, none⟩ = some (.int .i64 d.b) ∧ w.cell? ⟨g, 4, none⟩ = some (.int .i64 d.co) ∧ g < w.heap.size
theorem DvAt.below {w w' : World} {g B : Nat} {d : Dv} (h : DvAt w g d) (hb : Below B w w') (hB : g < B) : DvAt w' g d :=
  ⟨by rw [hb.cell (p := ⟨g, 0, none⟩) hB]; exact h.1, by rw [hb.cell (p := ⟨g, 1, none⟩) hB]; exact h.2.1, by rw [hb.cell (p := ⟨g, 2, none⟩) hB]; exact h.2.2.1, by rw [hb.cell (p := ⟨g, 3, none⟩) hB]; exact h.2.2.2.1, by rw [hb.cell (p := ⟨g, 4, none⟩) hB]; exact h.2.2.2.2.1, Nat.lt_of_lt_of_le h.2.2.2.2.2 hb.size⟩
theorem DvAt.new (w : World) (d : Dv) (T : Nat) : DvAt (w.alloc (.cells #[.string d.nm, .int .i64 d.ki, .int .i64 d.a, .int .i64 d.b, .int .i64 d.co] T)) w.heap.size d := by
  refine ⟨?_, ?_, ?_, ?_, ?_, by simp⟩
  all_goals (rw [World.cell?_alloc_new]; rfl)
theorem DvAt.alloc {w : World} {g : Nat} {d : Dv} (h : DvAt w g d) (o : Obj) : DvAt (w.alloc o) g d := h.below (below_box w o) h.2.2.2.2.2
/-- a network's two cells -/
def NtAt (w : World) (g : Nat) (x y : Value) : Prop := w.cell? ⟨g, 0, none⟩ = some x ∧ w.cell? ⟨g, 1, none⟩ = some y ∧ g < w.heap.size
theorem NtAt.below {w w' : World} {g B : Nat} {x y : Value} (h : NtAt w g x y) (hb : Below B w w') (hB : g < B) : NtAt w' g x y :=
  ⟨by rw [hb.cell (p := ⟨g, 0, none⟩) hB]; exact h.1, by rw [hb.cell (p := ⟨g, 1, none⟩) hB]; exact h.2.1, Nat.lt_of_lt_of_le h.2.2 hb.size⟩
theorem NtAt.new (w : World) (x y : Value) (T : Nat) : NtAt (w.alloc (.cells #[x, y] T)) w.heap.size x y := by
  refine ⟨?_, ?_, by simp⟩
  all_goals (rw [World.cell?_alloc_new]; rfl)
theorem NtAt.alloc {w : World} {g : Nat} {x y : Value} (h : NtAt w g x y) (o : Obj) : NtAt (w.alloc o) g x y := h.below (below_box w o) h.2.2
def dvV (d : Dv) : Value := .agg #[.string d.nm, .int .i64 d.ki, .int .i64 d.a, .int .i64 d.b, .int .i64 d.co]
/-- numbers of a device fit an int -/
def Fits (d : Dv) : Prop := -9223372036854775808 ≤ d.a ∧ d.a ≤ 9223372036854775807 ∧ -9223372036854775808 ≤ d.b ∧ d.b ≤ 9223372036854775807 ∧ d.nm.size ≤ maxLen
set_option maxRecDepth 100000 in
set_option maxHeartbeats 1000000 in
theorem hasItsNodes_is (a : Option Addr) (N c : Nat) (x : Value) (d : Dv) (r : Bool) (w : World) (hr : itsB N d = r) (hl : N ≤ maxLen) (hd : Fits d) :
    Calls Tryd.prog 78 #[.agg #[.slice a N c, x], dvV d] w fun e w' => e = .returned (.bool r) ∧ Below w.heap.size w w' := by
  obtain ⟨nm, ki, da, db, co⟩ := d
  obtain ⟨f1, f2, f3, f4, -⟩ := hd
  dsimp only at f1 f2 f3 f4
  have hb0 := Lib.hid (((Below.refl w.heap.size w).alloc (Nat.le_refl _) (.cells #[.slice a N c, x] 26)).alloc (by simp) (.cells #[.string nm, .int .i64 ki, .int .i64 da, .int .i64 db, .int .i64 co] 57))
  have hj1 := Lib.hid (fun h w => joins_is ki true (decide_eq_true h) w)
  have hj0 := Lib.hid (fun h w => joins_is ki false (decide_eq_false h) w)
  have hr := Lib.hid hr
  unfold dvV
  by_cases h1 : 0 ≤ da ∧ da < N
  · have ea : ndB N da = true := decide_eq_true h1
    by_cases h2 : 1 ≤ ki ∧ ki ≤ 3
    · by_cases h3 : 0 ≤ db ∧ db < N
      · have eb : ndB N db = true := decide_eq_true h3
        by_cases h4 : db = da
        · have e : r = false := by rw [← hr.out]; exact decide_eq_false (by dsimp only; omega)
          subst e
          subst h4
          have EA := Lib.hid ea
          have EB := Lib.hid eb
          clear ea eb
          go_enter Tryd.func78, Tryd.ntmps78
          go_wp2_with fail
          refine (isNode_is _ _ _ _ _ _ _ EA.out hl f1 f2).mono ?_; rintro e w' ⟨rfl, rfl⟩
          go_wp2_with fail
          refine (hj1.out (by omega) _).mono ?_; rintro e w' ⟨rfl, rfl⟩
          go_wp2_with fail
          refine (isNode_is _ _ _ _ _ _ _ EB.out hl f3 f4).mono ?_; rintro e w' ⟨rfl, rfl⟩
          go_wp2
          go_ret
          exact ⟨by first | rfl | exact ret_bool (by simpa using h4), (hb0.out.alloc (by simp; omega) _).alloc (by simp; omega) _⟩
        · have e : r = true := by rw [← hr.out]; exact decide_eq_true (by dsimp only; omega)
          subst e
          have EA := Lib.hid ea
          have EB := Lib.hid eb
          clear ea eb
          go_enter Tryd.func78, Tryd.ntmps78
          go_wp2_with fail
          refine (isNode_is _ _ _ _ da _ _ EA.out hl f1 f2).mono ?_; rintro e w' ⟨rfl, rfl⟩
          go_wp2_with fail
          refine (hj1.out (by omega) _).mono ?_; rintro e w' ⟨rfl, rfl⟩
          go_wp2_with fail
          refine (isNode_is _ _ _ _ db _ _ EB.out hl f3 f4).mono ?_; rintro e w' ⟨rfl, rfl⟩
          go_wp2
          go_ret
          exact ⟨by first | rfl | exact ret_bool (by simpa using h4), (hb0.out.alloc (by simp; omega) _).alloc (by simp; omega) _⟩
      · have eb : ndB N db = false := decide_eq_false h3
        have e : r = false := by rw [← hr.out]; exact decide_eq_false (by dsimp only; omega)
        subst e
        have EA := Lib.hid ea
        have EB := Lib.hid eb
        clear ea eb
        go_enter Tryd.func78, Tryd.ntmps78
        go_wp2_with fail
        refine (isNode_is _ _ _ _ da _ _ EA.out hl f1 f2).mono ?_; rintro e w' ⟨rfl, rfl⟩
        go_wp2_with fail
        refine (hj1.out (by omega) _).mono ?_; rintro e w' ⟨rfl, rfl⟩
        go_wp2_with fail
        refine (isNode_is _ _ _ _ db _ _ EB.out hl f3 f4).mono ?_; rintro e w' ⟨rfl, rfl⟩
        go_wp2
        go_ret
        exact ⟨by first | rfl | exact ret_bool (by simpa using h4), (hb0.out.alloc (by simp; omega) _).alloc (by simp; omega) _⟩
    · by_cases h4 : db = -1
      · have e : r = true := by rw [← hr.out]; exact decide_eq_true (by dsimp only; omega)
        subst e
        subst h4
        have EA := Lib.hid ea
        clear ea
        go_enter Tryd.func78, Tryd.ntmps78
        go_wp2_with fail
        refine (isNode_is _ _ _ _ da _ _ EA.out hl f1 f2).mono ?_; rintro e w' ⟨rfl, rfl⟩
        go_wp2_with fail
        refine (hj0.out (by omega) _).mono ?_; rintro e w' ⟨rfl, rfl⟩
        go_wp2
        go_ret
        exact ⟨by first | rfl | exact ret_bool (by simpa using h4), hb0.out.alloc (by simp; omega) _⟩
      · have e : r = false := by rw [← hr.out]; exact decide_eq_false (by dsimp only; omega)
        subst e
        have EA := Lib.hid ea
        clear ea
        go_enter Tryd.func78, Tryd.ntmps78
        go_wp2_with fail
        refine (isNode_is _ _ _ _ da _ _ EA.out hl f1 f2).mono ?_; rintro e w' ⟨rfl, rfl⟩
        go_wp2_with fail
        refine (hj0.out (by omega) _).mono ?_; rintro e w' ⟨rfl, rfl⟩
        go_wp2
        go_ret
        exact ⟨by first | rfl | exact ret_bool (by simpa using h4), hb0.out.alloc (by simp; omega) _⟩
  · have ea : ndB N da = false := decide_eq_false h1
    have e : r = false := by rw [← hr.out]; exact decide_eq_false (by dsimp only; omega)
    subst e
    have EA := Lib.hid ea
    clear ea
    go_enter Tryd.func78, Tryd.ntmps78
    go_wp2_with fail
    refine (isNode_is _ _ _ _ da _ _ EA.out hl f1 f2).mono ?_; rintro e w' ⟨rfl, rfl⟩
    go_wp2
    go_ret
    exact ⟨by first | rfl | exact ret_bool (by simpa using h4), hb0.out.alloc (by simp; omega) _⟩
end Go.Proofs.YtoeojhabhnoojaaDoor.net
