/- What every walk on rows of structs uses: a slice of structs that can be read; strings that are equal. No program's walk in this text. -/
import Derived.Test.YthdjpmiohfaphaaGreatDoorAggs
import Derived.Test.YthdjpmiohfaphaaGreatDoorKit
import Derived.Test.YthdjpmiohfaphaaGreatDoorNamC
namespace Go.Proofs.YthdjpmiohfaphaaGreatDoor.net
open Go.RowKit lex aggs kit

/-- a slice of structs that can be read: nil, or a row of cells -/
def RIn {α : Type} (enc : α → List Value) (k : Nat) (w : World) (a : Option Addr) (xs : List α) : Prop := (a = none ∧ xs = []) ∨ ∃ b off, a = some ⟨b, off, none⟩ ∧ b < w.heap.size ∧ CellsAt enc k w b off xs
theorem RIn.below {α : Type} {enc : α → List Value} {k : Nat} {w w' : World} {a : Option Addr} {xs : List α} (h : RIn enc k w a xs) (hb : Below w.heap.size w w') : RIn enc k w' a xs := by
  rcases h with h | ⟨b, off, h1, h2, h3⟩
  · exact .inl h
  · exact .inr ⟨b, off, h1, Nat.lt_of_lt_of_le h2 hb.size, h3.below hb⟩
theorem RIn.some {α : Type} {enc : α → List Value} {k : Nat} {w : World} {a : Option Addr} {xs : List α} (h : RIn enc k w a xs) (hp : 0 < xs.length) : ∃ b off, a = some ⟨b, off, none⟩ ∧ b < w.heap.size ∧ CellsAt enc k w b off xs := by
  rcases h with ⟨_, h⟩ | h
  · rw [h] at hp; cases hp
  · exact h
theorem RIn.pre {α : Type} {enc : α → List Value} {k : Nat} {w : World} {a : Option Addr} {xs ys : List α} (h : RIn enc k w a (xs ++ ys)) : RIn enc k w a xs := by
  rcases h with ⟨h, e⟩ | ⟨b, off, h1, h2, h3⟩
  · exact .inl ⟨h, (List.append_eq_nil_iff.1 e).1⟩
  · refine .inr ⟨b, off, h1, h2, fun i u hu => h3 i u ?_⟩
    rw [flat_append, List.getElem?_append_left (List.getElem?_eq_some_iff.1 hu).1]; exact hu
theorem RIn.take {α : Type} {enc : α → List Value} {k : Nat} {w : World} {a : Option Addr} {xs : List α} (h : RIn enc k w a xs) (i : Nat) : RIn enc k w a (xs.take i) := by
  rw [← List.take_append_drop i xs] at h; exact h.pre
theorem AggsAt.rin {α : Type} {enc : α → List Value} {k T : Nat} {w : World} {base : Nat} {v : Value} {xs : List α} (h : AggsAt T k enc w base v xs) (hk : ∀ x, (enc x).length = k) : ∃ a cap, v = .slice a xs.length cap ∧ RIn enc k w a xs := by
  rcases h.shape hk with ⟨rfl, rfl⟩ | ⟨g, cap, rfl, _, hg, _, _, hc, _⟩
  · exact ⟨none, 0, rfl, .inl ⟨rfl, rfl⟩⟩
  · exact ⟨_, _, rfl, .inr ⟨g, 0, rfl, hg, hc⟩⟩
theorem str_eq {x y : ByteArray} : (x.toList == y.toList) = decide (x = y) := by
  rw [Lib.toList_data, Lib.toList_data]
  by_cases h : x = y
  · subst h; simp
  · have : x.data.toList ≠ y.data.toList := fun e => h (by cases x; cases y; simp at e; simp [e])
    rw [decide_eq_false h, beq_eq_false_iff_ne]; exact this
theorem ret_int {x y : Int} (g : x = y) : Ending.returned (.int .i64 x) = .returned (.int .i64 y) := by rw [g]
theorem below_box (w : World) (o : Obj) : Below w.heap.size w (w.alloc o) := (Below.refl w.heap.size w).alloc (Nat.le_refl _) o
theorem grown_alloc {w w1 : World} {row : Option Nat} (h : w.grownBy w1 row) (o : Obj) : w.grownBy (w1.alloc o) row where
  os := h.os
  tape := h.tape
  output := h.output
  size := by have := h.size; simp; omega
  block := fun k hk hne => by
    rw [((Below.refl w1.heap.size w1).alloc (Nat.le_refl _) o).block k (Nat.lt_of_lt_of_le hk h.size)]; exact h.block k hk hne
end Go.Proofs.YthdjpmiohfaphaaGreatDoor.net
