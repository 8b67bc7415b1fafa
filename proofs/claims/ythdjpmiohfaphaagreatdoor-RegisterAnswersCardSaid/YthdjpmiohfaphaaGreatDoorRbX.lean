/- Registers in boxes: what laws hold of memory. No walk in this text. -/
import Derived.Test.YthdjpmiohfaphaaGreatDoorRgP
import Derived.Test.YthdjpmiohfaphaaGreatDoorRgB
namespace Go.Proofs.YthdjpmiohfaphaaGreatDoor.reg
open Go.RowKit lex aggs kit net deck

/-- a new box of a register -/
theorem boxed (w : World) (a : Option Addr) (N c : Nat) (W : World) (h : (w.alloc (.cells #[.slice none 0 0] 25)).setCell ⟨w.heap.size, 0, none⟩ (.slice a N c) = W) : OneAt W w.heap.size (.slice a N c) ∧ Below w.heap.size w W ∧ w.heap.size < W.heap.size ∧ (w.alloc (.cells #[.slice none 0 0] 25)).cell? ⟨w.heap.size, 0, none⟩ = some (.slice none 0 0) ∧ (w.alloc (.cells #[.slice none 0 0] 25)).frozen? ⟨w.heap.size, 0, none⟩ = false := by
  have hz := heap_alloc_new w (.cells #[.slice none 0 0] 25)
  have hset := set_at (i := 0) (.slice a N c) hz
  obtain ⟨c0, z0⟩ := cell_at hz 0
  rw [h] at hset
  have hl := lt_of_block hset
  refine ⟨⟨(cell_at hset 0).1, hl⟩, ?_, hl, c0, z0⟩
  rw [← h]
  exact (below_box w _).setCell (p := ⟨w.heap.size, 0, none⟩) (Nat.le_refl _) _
/-- a register in a box -/
structure Bx (W : World) (g : Nat) (a : Option Addr) (N c : Nat) (qs : List Pn) : Prop where
  one : OneAt W g (.slice a N c)
  reg : RegIn W a N c qs
theorem Bx.below {W W' : World} {g : Nat} {a : Option Addr} {N c : Nat} {qs : List Pn} (h : Bx W g a N c qs) (b : Below W.heap.size W W') : Bx W' g a N c qs := ⟨h.one.below b h.one.2, h.reg.below b⟩
/-- what the law holds: a register, two people -/
structure Bk (W0 W : World) (rb pb qb : Nat) (a : Option Addr) (N c : Nat) (ps : List Pn) (p q : Pn) : Prop where
  below : Below W0.heap.size W0 W
  r : Bx W rb a N c ps
  pp : PnAt W pb p
  qq : PnAt W qb q
  cls : HasClasses W
theorem Bk.step {W0 W W' : World} {rb pb qb : Nat} {a : Option Addr} {N c : Nat} {ps : List Pn} {p q : Pn} (h : Bk W0 W rb pb qb a N c ps p q) (b : Below W.heap.size W W') : Bk W0 W' rb pb qb a N c ps p q :=
  ⟨h.below.trans (b.mono h.below.size), h.r.below b, h.pp.below b h.pp.2.2.2.2.2, h.qq.below b h.qq.2.2.2.2.2, h.cls.below b⟩
end Go.Proofs.YthdjpmiohfaphaaGreatDoor.reg
