/- Slices of bytes that a call made itself: what they hold; string(b) of them. -/
import Derived.Test.YtoeadafgokdacaaDoorStrs
import Derived.Laws.OwnMore
namespace Go.Proofs.YtoeadafgokdacaaDoor.strs
open Go.RowKit

def byteVals (l : List UInt8) : List Value := l.map fun c => .int .u8 (c.toNat : Int)
/-- slice value v of the call's own holds the bytes l -/
def BytesAt (w : World) (base : Nat) (v : Value) (l : List UInt8) : Prop := w.ownsRow base 5 1 v l.length (byteVals l)
theorem info5 : (Tryd.prog.info? 5).map (fun i => (i.zero, i.size, i.bytes)) = some (some (.int .u8 0), 1, 1) := by kernel_rfl
theorem BytesAt.made {w : World} {base N : Nat} {v : Value} (h : w.ownsRow base 5 1 v N (madeCells (Value.int .u8 0).cells (N * 1)).toList) : BytesAt w base v (List.replicate N 0) := by
  have e : (madeCells (Value.int .u8 0).cells (N * 1)).toList = byteVals (List.replicate N 0) := by
    rw [Nat.mul_one]
    exact (toList_madeCells_one (.int .u8 0) N).trans (by simp [byteVals])
  rw [e] at h
  unfold BytesAt; rw [List.length_replicate]; exact h
theorem BytesAt.cells {w : World} {base g cap N : Nat} {l : List UInt8} (hN : l.length = N) (h : BytesAt w base (.slice (some ⟨g, 0, none⟩) N cap) l) : ∀ j (hj : j < l.length), w.cell? ⟨g, j, none⟩ = some (.int .u8 (l[j].toNat : Int)) := by
  subst hN
  intro j hj
  rw [World.ownsRow.cellAt h j (by omega)]
  simp [byteVals, hj]
theorem BytesAt.free {w : World} {base g cap N : Nat} {l : List UInt8} (hN : l.length = N) (h : BytesAt w base (.slice (some ⟨g, 0, none⟩) N cap) l) (j : Nat) : w.frozen? ⟨g, j, none⟩ = false := by
  subst hN
  exact World.ownsRow.frozenAt h j
theorem BytesAt.set {w : World} {base g cap N : Nat} {l : List UInt8} (hN : l.length = N) (h : BytesAt w base (.slice (some ⟨g, 0, none⟩) N cap) l) (j : Nat) (c : UInt8) :
    BytesAt (w.setCell ⟨g, j, none⟩ (.int .u8 (c.toNat : Int))) base (.slice (some ⟨g, 0, none⟩) N cap) (l.set j c) ∧ w.grownBy (w.setCell ⟨g, j, none⟩ (.int .u8 (c.toNat : Int))) (some g) := by
  subst hN
  have := World.ownsRow.stored h j (.int .u8 (c.toNat : Int))
  refine ⟨?_, this.2⟩
  have h1 := this.1
  unfold BytesAt byteVals at *
  rw [List.length_set]
  simpa [List.map_set] using h1
theorem BytesAt.below {w w' : World} {base : Nat} {v : Value} {l : List UInt8} (h : BytesAt w base v l) (hb : Below w.heap.size w w') : BytesAt w' base v l :=
  World.ownsRow.kept (row := none) h ⟨hb.os, hb.tape, hb.output, hb.size, fun k hk _ => hb.block k hk⟩ (by cases v.ownBlock <;> simp)
/-- string(b) where the first bytes of b are l -/
theorem conv {w : World} {g cap : Nat} {l : List UInt8} (n : Nat) (hn : n = l.length) (hc : ∀ j (hj : j < l.length), w.cell? ⟨g, j, none⟩ = some (.int .u8 (l[j].toNat : Int))) :
    (convert 39 9 (.slice (some ⟨g, 0, none⟩) n cap)).run Tryd.prog w = .ok (.string (bs l)) w := by
  subst hn
  exact run_convert_bytes_back (P := Tryd.prog) w 39 9 5 ⟨g, 0, none⟩ cap l Tryd.underlying39 Tryd.underlying5 Tryd.underlying9 (fun j hj => by rw [Go.WideShapes.add_plain, Nat.zero_add]; exact hc j hj)
end Go.Proofs.YtoeadafgokdacaaDoor.strs
