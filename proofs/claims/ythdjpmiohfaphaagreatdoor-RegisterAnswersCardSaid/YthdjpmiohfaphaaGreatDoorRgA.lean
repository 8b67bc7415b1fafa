/- People and registers in memory; the walks of the reference of layer 5: Valid (layer 2), a person's error, Check, Find, Can. No condition. -/
import Derived.Test.YthdjpmiohfaphaaGreatDoorRgO
import Derived.Test.YthdjpmiohfaphaaGreatDoorRin
import Derived.Test.YthdjpmiohfaphaaGreatDoorNamP
import Derived.Deep.QuietTactic
import Derived.BigQuiet
namespace Go.Proofs.YthdjpmiohfaphaaGreatDoor.reg
open Go.RowKit lex aggs kit net

def encPn (p : Pn) : List Value := [.string p.nm, .int .i64 p.co, .int .i64 p.sk, .int .i64 p.fr, .int .i64 p.un]
def pnV (p : Pn) : Value := .agg #[.string p.nm, .int .i64 p.co, .int .i64 p.sk, .int .i64 p.fr, .int .i64 p.un]
theorem encPn_len (p : Pn) : (encPn p).length = 5 := rfl
theorem encPn_one (p : Pn) : ∀ v ∈ encPn p, v.oneCell' = true := by
  intro v hv; simp [encPn] at hv; rcases hv with rfl | rfl | rfl | rfl | rfl <;> rfl
theorem cells_pn {w : World} {b off : Nat} {ps : List Pn} (h : CellsAt encPn 5 w b off ps) (j : Nat) (hj : j < ps.length) :
    w.cell? ⟨b, off + j * 5, none⟩ = some (.string ps[j].nm) ∧ w.cell? ⟨b, off + j * 5 + 1, none⟩ = some (.int .i64 ps[j].co) ∧ w.cell? ⟨b, off + j * 5 + 2, none⟩ = some (.int .i64 ps[j].sk) ∧ w.cell? ⟨b, off + j * 5 + 3, none⟩ = some (.int .i64 ps[j].fr) ∧ w.cell? ⟨b, off + j * 5 + 4, none⟩ = some (.int .i64 ps[j].un) :=
  ⟨h.get encPn_len j hj 0 (by decide) _ rfl, by rw [Nat.add_assoc]; exact h.get encPn_len j hj 1 (by decide) _ rfl, by rw [Nat.add_assoc]; exact h.get encPn_len j hj 2 (by decide) _ rfl, by rw [Nat.add_assoc]; exact h.get encPn_len j hj 3 (by decide) _ rfl, by rw [Nat.add_assoc]; exact h.get encPn_len j hj 4 (by decide) _ rfl⟩
/-- a register that can be read -/
structure RegIn (w : World) (a : Option Addr) (N c : Nat) (ps : List Pn) : Prop where
  len : ps.length = N
  rin : RIn encPn 5 w a ps
  fit : ∀ x ∈ ps, x.nm.size ≤ maxLen
  ncap : N ≤ c
  nmax : c ≤ maxLen
  nil : a = none → c = 0
theorem RegIn.below {w w' : World} {a : Option Addr} {N c : Nat} {ps : List Pn} (h : RegIn w a N c ps) (hb : Below w.heap.size w w') : RegIn w' a N c ps := { h with rin := h.rin.below hb }
/-- a box of one cell -/
def OneAt (w : World) (g : Nat) (x : Value) : Prop := w.cell? ⟨g, 0, none⟩ = some x ∧ g < w.heap.size
theorem OneAt.below {w w' : World} {g B : Nat} {x : Value} (h : OneAt w g x) (hb : Below B w w') (hB : g < B) : OneAt w' g x :=
  ⟨by rw [hb.cell (p := ⟨g, 0, none⟩) hB]; exact h.1, Nat.lt_of_lt_of_le h.2 hb.size⟩
theorem OneAt.new (w : World) (x : Value) (T : Nat) : OneAt (w.alloc (.cells #[x] T)) w.heap.size x := by
  refine ⟨?_, by simp⟩
  rw [World.cell?_alloc_new]; rfl
set_option maxRecDepth 100000 in
theorem rvalid_is (f u : Int) (b : Bool) (hb : decide (0 ≤ f ∧ f < u ∧ u ≤ 16777216) = b) (w : World) :
    Calls Tryz.prog 48 #[.agg #[.int .i64 f, .int .i64 u]] w fun e w' => e = .returned (.bool b) ∧ Below w.heap.size w w' := by
  have bx := Lib.hid (below_box w (.cells #[.int .i64 f, .int .i64 u] 77))
  subst hb
  by_cases h0 : 0 ≤ f
  · by_cases h1 : f < u
    · by_cases h2 : u ≤ 16777216
      · have e : decide (0 ≤ f ∧ f < u ∧ u ≤ 16777216) = true := decide_eq_true ⟨h0, h1, h2⟩
        rw [e]
        clear e
        go_enter Tryz.func48, Tryz.ntmps48
        go_wp2
        go_ret
        exact ⟨rfl, bx.out⟩
      · have e : decide (0 ≤ f ∧ f < u ∧ u ≤ 16777216) = false := decide_eq_false (fun h => h2 h.2.2)
        rw [e]
        clear e
        go_enter Tryz.func48, Tryz.ntmps48
        go_wp2
        go_ret
        exact ⟨rfl, bx.out⟩
    · have e : decide (0 ≤ f ∧ f < u ∧ u ≤ 16777216) = false := decide_eq_false (fun h => h1 h.2.1)
      rw [e]
      clear e
      go_enter Tryz.func48, Tryz.ntmps48
      go_wp2
      go_ret
      exact ⟨rfl, bx.out⟩
  · have e : decide (0 ≤ f ∧ f < u ∧ u ≤ 16777216) = false := decide_eq_false (fun h => h0 h.1)
    rw [e]
    clear e
    go_enter Tryz.func48, Tryz.ntmps48
    go_wp2
    go_ret
    exact ⟨rfl, bx.out⟩
end Go.Proofs.YthdjpmiohfaphaaGreatDoor.reg
