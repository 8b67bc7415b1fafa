/- The walks of layer 6: the flags of a number, whether all elements have one. Condition: the table 'flags' holds what its text lays. -/
import Derived.Test.YtoeojhabhnoojaaDoorMkM
import Derived.Test.YtoeojhabhnoojaaDoorRin
import Derived.Deep.QuietTactic
import Derived.BigQuiet
import Derived.RegionTactic
import Derived.Outline
import Derived.OpenShut
import Derived.WalkSpells
import Derived.WalkLawsBesides
namespace Go.Proofs.YtoeojhabhnoojaaDoor.msk
open Go.RowKit lex aggs kit net

def flg (i : Nat) : Int := if i = 0 then 0 else if i = 3 then 1 else 3
/-- the table of flags lies where the program laid it -/
def Flg (w : World) : Prop := ∀ i : Nat, i < 4 → w.cell? ⟨0, i, none⟩ = some (.int .i64 (flg i))
theorem Flg.below {w w' : World} (h : Flg w) (hb : Below w.heap.size w w') : Flg w' := fun i hi => by
  rw [hb.cell (World.block_lt_of_cell? w _ (h i hi))]; exact h i hi
/-- the elements of a slice of ints -/
def encI (z : Int) : List Value := [.int .i64 z]
theorem encI_len (z : Int) : (encI z).length = 1 := rfl
theorem encI_one (z : Int) : ∀ v ∈ encI z, v.oneCell' = true := by intro v hv; simp [encI] at hv; subst hv; rfl
theorem infoI : (Tryd.prog.info? 3).map (fun i => (i.zero, i.size, i.bytes)) = some (some (.int .i64 0), 1, 8) := by kernel_rfl
/-- the elements xs can be read behind the address a, if there are any -/
def RI (w : World) (a : Option Addr) (xs : List Int) : Prop := xs = [] ∨ ∃ b off, a = some ⟨b, off, none⟩ ∧ b < w.heap.size ∧ CellsAt encI 1 w b off xs
theorem RI.below {w w' : World} {a : Option Addr} {xs : List Int} (h : RI w a xs) (hb : Below w.heap.size w w') : RI w' a xs := by
  rcases h with h | ⟨b, off, h1, h2, h3⟩
  · exact .inl h
  · exact .inr ⟨b, off, h1, Nat.lt_of_lt_of_le h2 hb.size, h3.below hb⟩
theorem RI.some {w : World} {a : Option Addr} {xs : List Int} (h : RI w a xs) (hp : 0 < xs.length) : ∃ b off, a = Option.some ⟨b, off, none⟩ ∧ b < w.heap.size ∧ CellsAt encI 1 w b off xs := by
  rcases h with h | h
  · rw [h] at hp; cases hp
  · exact h
/-- a slice of ints that can be read: its elements are xs -/
structure LIn (w : World) (a : Option Addr) (N c : Nat) (xs : List Int) : Prop where
  len : xs.length = N
  cap : N ≤ c
  max : c ≤ maxLen
  rin : RI w a xs
  nil : a = none → c = 0
theorem LIn.below {w w' : World} {a : Option Addr} {N c : Nat} {xs : List Int} (h : LIn w a N c xs) (hb : Below w.heap.size w w') : LIn w' a N c xs := ⟨h.len, h.cap, h.max, h.rin.below hb, h.nil⟩
theorem cells_i {w : World} {g o : Nat} {xs : List Int} (h : CellsAt encI 1 w g o xs) (i : Nat) (hi : i < xs.length) : w.cell? ⟨g, o + i, none⟩ = some (.int .i64 (at0 xs i)) := by
  have := h.get encI_len i hi 0 (by decide) (.int .i64 xs[i]) rfl
  rw [at0_get hi]; simpa using this
/-- a slice of ints of the call's own -/
def OwnI (w : World) (base : Nat) (v : Value) (xs : List Int) : Prop := AggsAt 3 1 encI w base v xs
theorem OwnI.lin {w : World} {base : Nat} {v : Value} {xs : List Int} (h : OwnI w base v xs) : ∃ a c, v = .slice a xs.length c ∧ LIn w a xs.length c xs ∧ (∀ p, a = some p → base ≤ p.block) := by
  rcases AggsAt.shape h encI_len with ⟨rfl, rfl⟩ | ⟨g, cap, rfl, q1, q2, q3, q4, q5, _⟩
  · exact ⟨none, 0, rfl, ⟨rfl, Nat.le_refl _, Nat.zero_le _, .inl rfl, fun _ => rfl⟩, fun p hp => by cases hp⟩
  · exact ⟨_, _, rfl, ⟨rfl, q3, q4, .inr ⟨g, 0, rfl, q2, q5⟩, fun h => by cases h⟩, fun p hp => by cases hp; exact q1⟩
theorem hB_low {f x : Int} (hf : f = 1 ∨ f = 2) (h : x < 1) : hB f x = false := by
  rcases hf with rfl | rfl
  · exact mB_no.2 (by omega)
  · exact pB_no.2 (by omega)
theorem hB_high {f x : Int} (hf : f = 1 ∨ f = 2) (h : 4 ≤ x) : hB f x = false := by
  rcases hf with rfl | rfl
  · exact mB_no.2 (by omega)
  · exact pB_no.2 (by omega)
set_option maxRecDepth 100000 in
set_option maxHeartbeats 1000000 in
theorem has_is (f x : Int) (b : Bool) (w : World) (H : Flg w) (hf : f = 1 ∨ f = 2) (hb : hB f x = b) :
    Calls Tryd.prog 69 #[.int .i64 f, .int .i64 x] w fun e w' => e = .returned (.bool b) ∧ w = w' := by
  subst hb
  by_cases h0 : x < 0
  · rw [hB_low hf (by omega)]
    have t1 : decide (0 ≤ x) = false := decide_eq_false (by omega)
    clear H hf
    go_enter Tryd.func69, Tryd.ntmps69
    go_wp2
    go_ret
    exact ⟨rfl, rfl⟩
  · by_cases h4 : 4 ≤ x
    · rw [hB_high hf h4]
      clear H hf
      go_enter Tryd.func69, Tryd.ntmps69
      go_wp2
      go_ret
      exact ⟨rfl, rfl⟩
    · have c0 : w.cell? ⟨0, 0, none⟩ = some (.int .i64 0) := H 0 (by decide)
      have c1 : w.cell? ⟨0, 1, none⟩ = some (.int .i64 3) := H 1 (by decide)
      have c2 : w.cell? ⟨0, 2, none⟩ = some (.int .i64 3) := H 2 (by decide)
      have c3 : w.cell? ⟨0, 3, none⟩ = some (.int .i64 1) := H 3 (by decide)
      have b1 : bits BinOp.and IntKind.i64 3 1 = 1 := by decide +kernel
      have b2 : bits BinOp.and IntKind.i64 3 2 = 2 := by decide +kernel
      have b3 : bits BinOp.and IntKind.i64 0 1 = 0 := by decide +kernel
      have b4 : bits BinOp.and IntKind.i64 0 2 = 0 := by decide +kernel
      have b5 : bits BinOp.and IntKind.i64 1 1 = 1 := by decide +kernel
      have b6 : bits BinOp.and IntKind.i64 1 2 = 0 := by decide +kernel
      clear H
      have hx : x = 0 ∨ x = 1 ∨ x = 2 ∨ x = 3 := by omega
      clear h0 h4
      rcases hf with rfl | rfl <;> rcases hx with rfl | rfl | rfl | rfl
      all_goals (
        go_enter Tryd.func69, Tryd.ntmps69
        go_wp2
        go_ret
        exact ⟨rfl, rfl⟩)
set_option maxRecDepth 100000 in
set_option maxHeartbeats 1000000 in
theorem allHave_is (f : Int) (a : Option Addr) (N c : Nat) (xs : List Int) (b : Bool) (w : World) (H : Flg w) (hf : f = 1 ∨ f = 2) (h : LIn w a N c xs) (hb : xs.all (hB f) = b) :
    Calls Tryd.prog 63 #[.int .i64 f, .slice a N c] w fun e w' => e = .returned (.bool b) ∧ w = w' := by
  subst hb
  have hn := Lib.hid h.len
  have n2 := h.cap
  have n3 := h.max
  unfold maxLen at n3
  have HH := Lib.hid H
  have HL := Lib.hid h
  have HF := Lib.hid hf
  clear H h hf
  go_enter Tryd.func63, Tryd.ntmps63
  go_wp2
  go_loop [9] (fun i => ∃ k : Nat, k ≤ N ∧ i = .int .i64 k ∧ Hid (∀ j, j < k → hB f (at0 xs j) = true)) (fun i => N - (intOf i).toNat)
  case atStart => exact ⟨0, Nat.zero_le _, rfl, fun j hj => absurd hj (Nat.not_lt_zero j)⟩
  case round =>
    obtain ⟨k, hk, rfl, hd⟩ := hrel
    by_cases hlt : k < N
    · have hkx : k < xs.length := by rw [hn.out]; exact hlt
      obtain ⟨g, o, rfl, hg, hc⟩ := HL.out.rin.some (by omega)
      have c0 := cells_i hc k hkx
      obtain ⟨x, hx⟩ : ∃ x, at0 xs k = x := ⟨_, rfl⟩
      rw [hx] at c0
      have HX := Lib.hid hx
      clear hx hc hg
      obtain ⟨b, hb⟩ : ∃ b, hB f x = b := ⟨_, rfl⟩
      have HB := Lib.hid hb
      clear hb
      cases b
      · have no := Lib.hid (all_no (p := hB f) hkx (by rw [HX.out]; exact HB.out))
        clear hkx
        go_wp2_with (go_at_call 69; refine (has_is f x _ _ HH.out HF.out HB.out).mono ?_; rintro e w' ⟨rfl, rfl⟩)
        go_ret
        exact ⟨ret_bool no.out.symm, rfl⟩
      · clear hkx
        go_wp2_with (go_at_call 69; refine (has_is f x _ _ HH.out HF.out HB.out).mono ?_; rintro e w' ⟨rfl, rfl⟩)
        go_round
        case rel =>
          refine ⟨k + 1, by omega, by go_num, fun j hj => ?_⟩
          by_cases e : j = k
          · subst e; rw [HX.out]; exact HB.out
          · exact hd.out j (by omega)
        case measure => simp [intOf]; omega
    · obtain rfl : k = N := by omega
      have yes := Lib.hid ((all_iff (p := hB f) (l := xs)).2 (fun i hi => hd.out i (by rw [hn.out] at hi; exact hi)))
      go_wp2
      go_ret
      exact ⟨ret_bool yes.out.symm, rfl⟩
end Go.Proofs.YtoeojhabhnoojaaDoor.msk
