/- []byte(s): a row of bytes in memory of the call's own, with the run-time's mark behind its last cell. No walk in this text. -/
import Derived.Test.YticehhmfbpjamaaDoorStrs
namespace Go.Proofs.YticehhmfbpjamaaDoor.strs
open Go.RowKit

/-- block g holds the bytes l from its first cell on, and they may be written -/
structure ByteRow (w : World) (g : Nat) (l : List UInt8) : Prop where
  cell : ∀ j (hj : j < l.length), w.cell? ⟨g, j, none⟩ = some (.int .u8 (l[j].toNat : Int))
  free : ∀ j, j < l.length → w.frozen? ⟨g, j, none⟩ = false
theorem to_bytes (w : World) (l : List UInt8) : ∃ cap w', (convert 9 37 (.string (bs l))).run Tryd.prog w = .ok (.slice (some ⟨w.heap.size, 0, none⟩) l.length cap) w' ∧ ByteRow w' w.heap.size l ∧ Below w.heap.size w w' ∧ w.heap.size < w'.heap.size := by
  have h := run_bytes_of_string (P := Tryd.prog) w 9 37 5 (bs l) Tryd.underlying9 Tryd.underlying37 Tryd.underlying5
  rw [bs_size] at h
  have hs : (bs l).data.size = l.length := by simp [bs]
  have hsz : l.length ≤ (bytesRow (bs l) (grownCap w l.length 0 5)).size := by simp [bytesRow, bs]
  refine ⟨_, _, h, ⟨fun j hj => ?_, fun j hj => ?_⟩, ?_, ?_⟩
  · have := bytesRow_at (bs l) (grownCap w l.length 0 5) j (by omega)
    have e : (w.drew.alloc (.cells (bytesRow (bs l) (grownCap w l.length 0 5)) 5 ((bytesRow (bs l) (grownCap w l.length 0 5)).size, (bytesRow (bs l) (grownCap w l.length 0 5)).size + 1))).heap[w.heap.size]? = some (.cells (bytesRow (bs l) (grownCap w l.length 0 5)) 5 ((bytesRow (bs l) (grownCap w l.length 0 5)).size, (bytesRow (bs l) (grownCap w l.length 0 5)).size + 1)) := heap_alloc_new w.drew _
    simp only [World.cell?, e]
    rw [this]
    simp [bs]
  · have e : (w.drew.alloc (.cells (bytesRow (bs l) (grownCap w l.length 0 5)) 5 ((bytesRow (bs l) (grownCap w l.length 0 5)).size, (bytesRow (bs l) (grownCap w l.length 0 5)).size + 1))).heap[w.heap.size]? = some (.cells (bytesRow (bs l) (grownCap w l.length 0 5)) 5 ((bytesRow (bs l) (grownCap w l.length 0 5)).size, (bytesRow (bs l) (grownCap w l.length 0 5)).size + 1)) := heap_alloc_new w.drew _
    simp only [World.frozen?, e]
    simp; omega
  · exact (Below.refl _ w).drew.alloc (Nat.le_refl _) _
  · simp
theorem ByteRow.set {w : World} {g : Nat} {l : List UInt8} (h : ByteRow w g l) (j : Nat) (hj : j < l.length) (c : UInt8) : ByteRow (w.setCell ⟨g, j, none⟩ (.int .u8 (c.toNat : Int))) g (l.set j c) where
  cell := fun i hi => by
    have hi' : i < l.length := by rwa [List.length_set] at hi
    by_cases e : i = j
    · subst e
      rw [List.getElem_set_self]
      exact World.cell?_setCell_same _ _ _ (h.cell i hi')
    · rw [List.getElem_set_ne (fun h => e h.symm)]
      rw [World.cell?_setCell_other _ _ _ _ (fun h => e (by injection h with _ h2 _; exact h2.symm))]
      exact h.cell i hi'
  free := fun i hi => by
    rw [List.length_set] at hi
    rw [World.frozen?_setCell]; exact h.free i hi
theorem ByteRow.back {w : World} {g cap : Nat} {l : List UInt8} (h : ByteRow w g l) (n : Nat) (hn : n = l.length) :
    (convert 37 9 (.slice (some ⟨g, 0, none⟩) n cap)).run Tryd.prog w = .ok (.string (bs l)) w := by
  subst hn
  exact run_convert_bytes_back (P := Tryd.prog) w 37 9 5 ⟨g, 0, none⟩ cap l Tryd.underlying37 Tryd.underlying5 Tryd.underlying9 (fun j hj => by rw [Go.WideShapes.add_plain, Nat.zero_add]; exact h.cell j hj)
theorem ByteRow.drew {w : World} {g : Nat} {l : List UInt8} (h : ByteRow w g l) : ByteRow w.drew g l := ⟨h.cell, h.free⟩
end Go.Proofs.YticehhmfbpjamaaDoor.strs
