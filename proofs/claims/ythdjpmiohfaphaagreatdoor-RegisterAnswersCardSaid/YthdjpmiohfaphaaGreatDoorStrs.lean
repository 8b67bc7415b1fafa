/- Slices of strings that a call made itself: what they hold as lists of bytes; the one law of append that the walks use. -/
import Derived.Test.YthdjpmiohfaphaaGreatDoorKit
import Derived.WalkSpells
import Derived.WalkLawsBesides
import Derived.Outline
import Derived.Maps.AppendAt
import Derived.Lib.Strings
namespace Go.Proofs.YthdjpmiohfaphaaGreatDoor.strs
open Go.RowKit

/-- a list of bytes as a string -/
def bs (l : List UInt8) : ByteArray := ⟨l.toArray⟩
theorem bs_data (l : List UInt8) : (bs l).data.toList = l := by simp [bs]
theorem bs_size (l : List UInt8) : (bs l).size = l.length := by simp [bs, ByteArray.size]
theorem bs_of (s : ByteArray) : bs s.data.toList = s := by cases s; simp [bs]
theorem bs_inj {l r : List UInt8} (h : bs l = bs r) : l = r := by rw [← bs_data l, h, bs_data]
theorem extract_bs (s : ByteArray) (i j : Nat) : s.extract i j = bs ((s.data.toList.drop i).take (j - i)) := by
  rw [← bs_of (s.extract i j), Lib.extract_data]

/-- slice value v of the call's own holds the strings xs -/
def StrsAt (w : World) (base : Nat) (v : Value) (xs : List (List UInt8)) : Prop :=
  w.ownsRow base 9 1 v xs.length (xs.map fun l => .string (bs l))
theorem StrsAt.nil (w : World) (base : Nat) : StrsAt w base (.slice none 0 0) [] := World.ownsRow_nil _ _ _ _
theorem StrsAt.grown {w w' : World} {base : Nat} {v : Value} {xs : List (List UInt8)} {row : Option Nat} (h : StrsAt w base v xs) (hg : w.grownBy w' row) (hr : ∀ k, row = some k → k < base) : StrsAt w' base v xs := by
  refine World.ownsRow.kept h hg ?_
  cases hb : v.ownBlock with
  | none => exact .inl rfl
  | some k =>
    right
    intro e
    have := hr k e.symm
    have := (World.ownsRow.lt h k hb).1
    omega
theorem StrsAt.alloc {w : World} {base : Nat} {v : Value} {xs : List (List UInt8)} (h : StrsAt w base v xs) (o : Obj) : StrsAt (w.alloc o) base v xs := World.ownsRow.alloc h o
theorem StrsAt.below {w w' : World} {base : Nat} {v : Value} {xs : List (List UInt8)} (h : StrsAt w base v xs) (hb : Below w.heap.size w w') : StrsAt w' base v xs :=
  h.grown (row := none) ⟨hb.os, hb.tape, hb.output, hb.size, fun k hk _ => hb.block k hk⟩ (fun k hk => by cases hk)
/-- what is owned from a later block on is owned from an earlier block on -/
theorem StrsAt.mono {w : World} {base base' : Nat} {v : Value} {xs : List (List UInt8)} (h : StrsAt w base v xs) (hb : base' ≤ base) : StrsAt w base' v xs := by
  obtain ⟨h1, h2⟩ := h
  refine ⟨h1, ?_⟩
  rcases h2 with h2 | ⟨g, cap, cur, a, b, c⟩
  · exact .inl h2
  · exact .inr ⟨g, cap, cur, a, Nat.le_trans hb b, c⟩
theorem info9 : (Tryz.prog.info? 9).map (fun i => (i.zero, i.size, i.bytes)) = some (some (.string ByteArray.empty), 1, 16) := by kernel_rfl

/-- what an append of one string leaves -/
theorem StrsAt.push {w' : World} {base : Nat} {v' : Value} {xs : List (List UInt8)} {x : List UInt8} (h : w'.ownsRow base 9 1 v' (xs.length + 1) ((xs.map fun l => Value.string (bs l)) ++ [.string (bs x)])) : StrsAt w' base v' (xs ++ [x]) := by
  unfold StrsAt; simpa using h
theorem StrsAt.push_many {w' : World} {base : Nat} {v' : Value} {xs ys : List (List UInt8)} (h : w'.ownsRow base 9 1 v' (xs.length + ys.length) ((xs.map fun l => Value.string (bs l)) ++ (ys.map fun l => Value.string (bs l)))) : StrsAt w' base v' (xs ++ ys) := by
  unfold StrsAt; simpa using h
theorem StrsAt.shape {w : World} {base : Nat} {v : Value} {xs : List (List UInt8)} (h : StrsAt w base v xs) : (v = .slice none 0 0 ∧ xs = []) ∨ ∃ g cap, v = .slice (some ⟨g, 0, none⟩) xs.length cap ∧ base ≤ g ∧ g < w.heap.size ∧ xs.length ≤ cap ∧ cap ≤ maxLen ∧ ∀ j (hj : j < xs.length), w.cell? ⟨g, j, none⟩ = some (.string (bs xs[j])) := by
  have h0 := h
  obtain ⟨h1, h2⟩ := h
  rcases h2 with ⟨h2, h3⟩ | ⟨g, cap, cur, rfl, hb, hh, hn, hm, hc⟩
  · exact .inl ⟨h2, List.eq_nil_of_length_eq_zero h3⟩
  · refine .inr ⟨g, cap, rfl, hb, lt_of_block hh, hn, hm, fun j hj => ?_⟩
    rw [World.ownsRow.cellAt h0 j (by omega)]
    simp [hj]
theorem StrsAt.length {w : World} {base : Nat} {v : Value} {xs : List (List UInt8)} (h : StrsAt w base v xs) : ∃ a c, v = .slice a xs.length c ∧ xs.length ≤ maxLen := by
  rcases h.shape with ⟨rfl, rfl⟩ | ⟨g, cap, rfl, _, _, h1, h2, _⟩
  · exact ⟨none, 0, rfl, Nat.zero_le _⟩
  · exact ⟨_, _, rfl, Nat.le_trans h1 h2⟩
theorem bs_push (l : List UInt8) (c : UInt8) : bs l ++ ⟨#[c]⟩ = bs (l ++ [c]) := by
  rw [← bs_of (bs l ++ ⟨#[c]⟩), ByteArray.data_append]; simp [bs]
theorem bs_append (l r : List UInt8) : bs l ++ bs r = bs (l ++ r) := by
  rw [← bs_of (bs l ++ bs r), ByteArray.data_append]; simp [bs]
theorem bs_one (c : UInt8) : (⟨#[c]⟩ : ByteArray) = bs [c] := rfl

/-- two slices of the call's own do not lie in one row -/
def Apart (v u : Value) : Prop := ∀ k, v.ownBlock = some k → u.ownBlock ≠ some k
theorem Apart.symm {v u : Value} (h : Apart v u) : Apart u v := fun k hu hv => h k hv hu
theorem Apart.nil (u : Value) : Apart (.slice none 0 0) u := fun k h => by simp [Value.ownBlock] at h
theorem StrsAt.apart {w w' : World} {base : Nat} {v u : Value} {ys : List (List UInt8)} (h : StrsAt w base u ys) (hg : w.grownBy w' v.ownBlock) (ha : Apart v u) : StrsAt w' base u ys := by
  refine World.ownsRow.kept h hg ?_
  cases hb : u.ownBlock with
  | none => exact .inl rfl
  | some k => exact .inr (fun e => ha k e.symm hb)
theorem Apart.push {w : World} {base : Nat} {v v' u : Value} {ys : List (List UInt8)} (ha : Apart v u) (hu : StrsAt w base u ys) (hat : v'.ownBlock = v.ownBlock ∨ v'.ownBlock = some w.heap.size) : Apart v' u := by
  intro k hk
  rcases hat with h | h
  · rw [h] at hk; exact ha k hk
  · rw [h] at hk
    cases hk
    intro e
    have := (World.ownsRow.lt hu _ e).2
    omega
end Go.Proofs.YthdjpmiohfaphaaGreatDoor.strs
