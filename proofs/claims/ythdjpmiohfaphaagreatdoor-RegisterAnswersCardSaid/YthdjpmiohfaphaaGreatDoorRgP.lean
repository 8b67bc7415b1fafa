/- Registers that are made: rows of people of the call's own, parts of rows, what is returned. No condition. -/
import Derived.Test.YthdjpmiohfaphaaGreatDoorRgD
import Derived.Test.YthdjpmiohfaphaaGreatDoorMkNm
import Derived.Laws.AppendOwn
import Derived.OwnWalk
namespace Go.Proofs.YthdjpmiohfaphaaGreatDoor.reg
open Go.RowKit lex aggs kit net deck

theorem infoPn : (Tryz.prog.info? 27).map (fun i => (i.zero, i.size, i.bytes)) = some (some (.agg #[.string ⟨#[]⟩, .int .i64 0, .int .i64 0, .int .i64 0, .int .i64 0]), 5, 48) := by kernel_rfl
theorem reg_nil (W : World) : RegIn W none 0 0 [] := ⟨rfl, .inl ⟨rfl, rfl⟩, (fun _ h => by cases h), Nat.le_refl _, Nat.zero_le _, fun _ => rfl⟩
/-- a register and an error are returned -/
def RegPost (ps : List Pn) (E : Int) (w : World) (e : Ending) (w' : World) : Prop :=
  ∃ a N c, e = .returned (.tuple #[.agg #[.slice a N c], .int .i64 E]) ∧ RegIn w' a N c ps ∧ Below w.heap.size w w'
theorem reg_of {W : World} {base : Nat} {v : Value} {qs : List Pn} (h : AggsAt 27 5 encPn W base v qs) (hf : ∀ x ∈ qs, x.nm.size ≤ maxLen) : ∃ a c, v = .slice a qs.length c ∧ RegIn W a qs.length c qs := by
  rcases h.shape encPn_len with ⟨rfl, rfl⟩ | ⟨g, cap, rfl, _, hg, h1, h2, hc, _⟩
  · exact ⟨none, 0, rfl, reg_nil W⟩
  · exact ⟨_, _, rfl, rfl, .inr ⟨g, 0, rfl, hg, hc⟩, hf, h1, h2, fun h => by cases h⟩
theorem cells_drop {α : Type} {enc : α → List Value} {k b off : Nat} {w : World} {xs : List α} (h : CellsAt enc k w b off xs) (hk : ∀ x, (enc x).length = k) (i : Nat) (hi : i ≤ xs.length) : CellsAt enc k w b (off + i * k) (xs.drop i) := by
  intro j u hu
  rw [Nat.add_assoc]
  refine h (i * k + j) u ?_
  have e : flat enc xs = flat enc (xs.take i) ++ flat enc (xs.drop i) := by rw [← flat_append, List.take_append_drop]
  have hl : (flat enc (xs.take i)).length = i * k := by rw [flat_length hk, List.length_take, Nat.min_eq_left hi]
  rw [e, List.getElem?_append_right (by rw [hl]; omega), hl, Nat.add_sub_cancel_left]; exact hu
theorem cells_take {α : Type} {enc : α → List Value} {k b off : Nat} {w : World} {xs : List α} (h : CellsAt enc k w b off xs) (i : Nat) : CellsAt enc k w b off (xs.take i) := by
  intro j u hu
  refine h j u ?_
  have e : flat enc xs = flat enc (xs.take i) ++ flat enc (xs.drop i) := by rw [← flat_append, List.take_append_drop]
  rw [e, List.getElem?_append_left (List.getElem?_eq_some_iff.1 hu).1]; exact hu
theorem cells_news {α : Type} {enc : α → List Value} {k b off : Nat} {w : World} {xs : List α} (h : CellsAt enc k w b off xs) : ∀ j u, (flat enc xs)[j]? = some u → w.cell? ((⟨b, off, none⟩ : Addr).add j) = some u := by
  intro j u hu
  rw [Go.WideShapes.add_plain]
  exact h j u hu
end Go.Proofs.YthdjpmiohfaphaaGreatDoor.reg
