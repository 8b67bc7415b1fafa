/- What the networks and people that are made of numbers have in common: a name of a letter and two digits. No condition. -/
import Derived.Test.YthdjpmiohfaphaaGreatDoorRin
import Derived.Test.YthdjpmiohfaphaaGreatDoorDeck
namespace Go.Proofs.YthdjpmiohfaphaaGreatDoor.net
open Go.RowKit lex aggs kit deck

def nmB (c : UInt8) (i : Nat) : ByteArray := ⟨#[c, UInt8.ofNat (48 + i / 10), UInt8.ofNat (48 + i % 10)]⟩
theorem nmB_inj {c c' : UInt8} {i j : Nat} (hi : i < 100) (hj : j < 100) (h : nmB c i = nmB c' j) : c = c' ∧ i = j := by
  unfold nmB at h
  injection h with h
  have h := congrArg Array.toList h
  simp only [List.cons.injEq, and_true] at h
  obtain ⟨h0, h1, h2⟩ := h
  have e1 := congrArg UInt8.toNat h1
  have e2 := congrArg UInt8.toNat h2
  rw [UInt8.toNat_ofNat_of_lt' (by show _ < 256; omega), UInt8.toNat_ofNat_of_lt' (by show _ < 256; omega)] at e1 e2
  exact ⟨h0, by omega⟩
theorem isN_digit {d : Nat} (h : d < 10) : isN (UInt8.ofNat (48 + d)) = true := by
  unfold isN; rw [isD_ofNat h]; simp
theorem nmB_name {c : UInt8} {i : Nat} (hc : isL c = true) (hi : i < 100) : nameB (nmB c i).data.toList = true := by
  refine nameB_yes (by simp [nmB]) (by simp [nmB]) (by simpa [nmB] using hc) ?_
  intro k hk
  have hk3 : k < 3 := by simpa [nmB] using hk
  match k, hk3 with
  | 0, _ => show isN c = true; unfold isN; rw [hc]; rfl
  | 1, _ => exact isN_digit (d := i / 10) (by omega)
  | 2, _ => exact isN_digit (d := i % 10) (by omega)
theorem str2 (w : World) (c1 c2 : UInt8) : (convert 72 9 (.slice (some ⟨w.heap.size, 0, none⟩) 2 2)).run Tryz.prog (w.alloc (.cells #[.int .u8 (c1.toNat : Int), .int .u8 (c2.toNat : Int)] 5)) = .ok (.string ⟨#[c1, c2]⟩) (w.alloc (.cells #[.int .u8 (c1.toNat : Int), .int .u8 (c2.toNat : Int)] 5)) := by
  have h := run_convert_bytes_back (P := Tryz.prog) (w.alloc (.cells #[.int .u8 (c1.toNat : Int), .int .u8 (c2.toNat : Int)] 5)) 72 9 5 ⟨w.heap.size, 0, none⟩ 2 [c1, c2] Tryz.underlying72 Tryz.underlying5 Tryz.underlying9 (fun j hj => by
    have hj2 : j < 2 := by simpa using hj
    match j, hj2 with
    | 0, _ => simp [Addr.add]
    | 1, _ => simp [Addr.add])
  simpa using h
theorem str2i (w : World) (m n : Int) (h0 : 0 ≤ m) (h1 : m ≤ 255) (g0 : 0 ≤ n) (g1 : n ≤ 255) : (convert 72 9 (.slice (some ⟨w.heap.size, 0, none⟩) 2 2)).run Tryz.prog (w.alloc (.cells #[.int .u8 m, .int .u8 n] 5)) = .ok (.string ⟨#[UInt8.ofNat m.toNat, UInt8.ofNat n.toNat]⟩) (w.alloc (.cells #[.int .u8 m, .int .u8 n] 5)) := by
  have e1 : ((UInt8.ofNat m.toNat).toNat : Int) = m := by simp; omega
  have e2 : ((UInt8.ofNat n.toNat).toNat : Int) = n := by simp; omega
  have := str2 w (UInt8.ofNat m.toNat) (UInt8.ofNat n.toNat)
  rwa [e1, e2] at this
set_option maxRecDepth 100000 in
theorem name_is (c : UInt8) (k : Nat) (w : World) (hk : k < 100) :
    Calls Tryz.prog 33 #[.string ⟨#[c]⟩, .int .i64 k] w fun e w' => e = .returned (.string (nmB c k)) ∧ w' = w.alloc (.cells #[.int .u8 (48 + k / 10 : Int), .int .u8 (48 + k % 10 : Int)] 5) := by
  have hs := str2i w (48 + k / 10) (48 + k % 10) (by omega) (by omega) (by omega) (by omega)
  have e : nmB c k = (⟨#[c]⟩ : ByteArray) ++ ⟨#[UInt8.ofNat (48 + (k : Int) / 10).toNat, UInt8.ofNat (48 + (k : Int) % 10).toNat]⟩ := by
    rw [show (48 + (k : Int) / 10).toNat = 48 + k / 10 from by omega, show (48 + (k : Int) % 10).toNat = 48 + k % 10 from by omega]
    unfold nmB
    apply ByteArray.ext
    simp
  rw [e]
  have d1 : ((k : Int)).tdiv 10 = (k : Int) / 10 := Int.tdiv_eq_ediv_of_nonneg (by omega)
  have d2 : ((k : Int)).tmod 10 = (k : Int) % 10 := Int.tmod_eq_emod_of_nonneg (by omega)
  clear e
  go_enter Tryz.func33, Tryz.ntmps33
  have e3 : UInt8.ofNat (48 + (k : Int) / 10).toNat = 48 + UInt8.ofNat (k / 10) := by rw [show (48 + (k : Int) / 10).toNat = 48 + k / 10 from by omega, UInt8.ofNat_add]; rfl
  have e4 : UInt8.ofNat (48 + (k : Int) % 10).toNat = 48 + UInt8.ofNat (k % 10) := by rw [show (48 + (k : Int) % 10).toNat = 48 + k % 10 from by omega, UInt8.ofNat_add]; rfl
  have HE := Lib.hid (And.intro e3 e4)
  clear e3 e4
  go_wp2
  go_ret
  refine ⟨?_, rfl⟩
  rw [HE.out.1, HE.out.2]; rfl
theorem gb_drew {w w1 : World} {row : Option Nat} (h : w.grownBy w1 row) : w.grownBy w1.drew row := ⟨h.os, h.tape, h.output, h.size, h.block⟩
theorem gb_new {w w1 : World} {row : Option Nat} {g i : Nat} (u : Value) (h : w.grownBy w1 row) (hg : w.heap.size ≤ g) : w.grownBy (w1.setCell ⟨g, i, none⟩ u) row where
  os := h.os
  tape := h.tape
  output := h.output
  size := by have := h.size; simpa using this
  block := fun k hk hne => by rw [Below.heap_setCell _ _ _ _ (fun e => by dsimp only at e; omega)]; exact h.block k hk hne
theorem set_at {w : World} {b t i : Nat} {A : Array Value} (u : Value) (h : w.heap[b]? = some (.cells A t (0, 0))) : (w.setCell ⟨b, i, none⟩ u).heap[b]? = some (.cells (A.set! i u) t (0, 0)) := by
  have hlt := lt_of_block h
  have h' : w.heap[b] = .cells A t (0, 0) := by simpa [Array.getElem?_eq_getElem hlt] using h
  show (w.heap.modify b _)[b]? = _
  rw [Array.getElem?_eq_getElem (by simpa using hlt), Array.getElem_modify_self, h']
  first | rfl | simp [Array.set!_eq_setIfInBounds]
theorem cell_at {w : World} {b t : Nat} {A : Array Value} (h : w.heap[b]? = some (.cells A t (0, 0))) (i : Nat) : w.cell? ⟨b, i, none⟩ = A[i]? ∧ w.frozen? ⟨b, i, none⟩ = false := by
  constructor <;> simp [World.cell?, World.frozen?, h]
theorem gb_below {w w1 w2 : World} {row : Option Nat} (h : w.grownBy w1 row) (b : Below w1.heap.size w1 w2) : w.grownBy w2 row :=
  h.andThen (row' := none) ⟨b.os, b.tape, b.output, b.size, fun k hk _ => b.block k hk⟩ (fun j hj => by cases hj)
end Go.Proofs.YthdjpmiohfaphaaGreatDoor.net
