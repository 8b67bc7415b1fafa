/- A handed list of spans, a handed span: as the walks are told of them. No walk in this text. -/
import Derived.Test.YticehhmfbpjamaaDoorCalG
import Derived.Deep.SlicePairs
import Derived.Lib.SmallJoins
namespace Go.Proofs.YticehhmfbpjamaaDoor.cal
open Go.RowKit Go.ChangeShapes Go.WideShapes Go.Deep Go.Joins lex uni aggs deck kit

def toI : Value → Int | .int _ n => n | _ => 0
set_option maxRecDepth 100000 in
theorem has_block {W : World} {b0 : Nat} {a : Addr} {len cap : Nat} (hv : Value.okWide Tryd.prog W .any b0 41 (.slice (some a) len cap)) : ∃ b off, a = ⟨b, off, none⟩ ∧ b < W.heap.size := by
  simp only [Value.okWide, Tryd.underlying41, Cell.okWide, Cell.ok] at hv
  obtain ⟨-, -, -, hs, row, cells, hsh, -⟩ := hv
  obtain ⟨b, off, spot⟩ := a
  simp only at hs hsh
  subst hs
  refine ⟨b, off, rfl, ?_⟩
  rcases Nat.lt_or_ge b W.heap.size with h | h
  · exact h
  · unfold World.shape? at hsh
    rw [Array.getElem?_eq_none h] at hsh
    cases hsh
set_option maxRecDepth 100000 in
theorem spans_in {H : Type} {enc : TypeId × Value → H} {W : World} {base b0 : Nat} {spare : Nat → Bool} {held : Bool} {a : Option Addr} {len cap : Nat} {d : DataW H} {p : List MemPlace}
    (hv : Value.okWide Tryd.prog W .any b0 41 (.slice a len cap)) (h : DataW.Trod enc Tryd.prog W base spare held 41 (.slice a len cap) d p) : ∃ rs : List Sp, rs.length = len ∧ SpIn W a rs := by
  obtain ⟨fuel, hf⟩ := h
  rcases open_slice_pairs Tryd.underlying41 Tryd.underlying43 (by kernel_rfl) (by kernel_rfl) (by kernel_rfl) (by kernel_rfl) (by kernel_rfl) hf with ⟨hcs, _⟩ | ⟨a', len', cap', m, n, V0, V1, D0, D1, P0, P1, hcs, _, hl, _, hm, _, hcell⟩
  · simp [Value.cells] at hcs
    obtain ⟨rfl, rfl, rfl⟩ := hcs
    exact ⟨[], rfl, .inl ⟨rfl, rfl⟩⟩
  · simp [Value.cells] at hcs
    obtain ⟨rfl, rfl, rfl⟩ := hcs
    obtain ⟨b, off, rfl, hb⟩ := has_block hv
    have hlm : len ≤ m := by rw [hm]; split <;> omega
    have key : ∀ i, i < len → W.cell? ⟨b, off + i * 2, none⟩ = some (.int .i64 (toI (V0 i))) ∧ W.cell? ⟨b, off + i * 2 + 1, none⟩ = some (.int .i64 (toI (V1 i))) := fun i hi => by
      obtain ⟨c0, c1, t0, t1⟩ := hcell i (by omega)
      obtain ⟨n0, e0, -, -⟩ := DataW.trod_int Tryd.underlying3 t0
      obtain ⟨n1, e1, -, -⟩ := DataW.trod_int Tryd.underlying3 t1
      injection e0 with e0
      injection e1 with e1
      rw [e0] at c0 ⊢
      rw [e1] at c1 ⊢
      rw [add_plain] at c0 c1
      exact ⟨c0, c1⟩
    refine ⟨(List.range len).map fun i => (toI (V0 i), toI (V1 i)), by simp, .inr ⟨b, off, rfl, hb, fun i u hu => ?_⟩⟩
    have hi : i < len * 2 := by
      have := (List.getElem?_eq_some_iff.1 hu).1
      rw [flat_length encSp_len] at this
      simpa using this
    have e : i = i / 2 * 2 + i % 2 := by omega
    have hj : i / 2 < ((List.range len).map fun i => (toI (V0 i), toI (V1 i))).length := by simp; omega
    rw [e, flat_get encSp_len _ (i / 2) hj (i % 2) (by omega)] at hu
    obtain ⟨c0, c1⟩ := key (i / 2) (by omega)
    rcases (show i % 2 = 0 ∨ i % 2 = 1 by omega) with h2 | h2
    · rw [h2] at hu e
      simp [encSp] at hu
      rw [← hu, show off + i = off + i / 2 * 2 by omega]; exact c0
    · rw [h2] at hu e
      simp [encSp] at hu
      rw [← hu, show off + i = off + i / 2 * 2 + 1 by omega]; exact c1
set_option maxRecDepth 100000 in
theorem span_arg {H : Type} {enc : TypeId × Value → H} {W : World} {base b0 : Nat} {spare : Nat → Bool} {held : Bool} {v : Value} {d : DataW H} {p : List MemPlace}
    (hv : Value.okWide Tryd.prog W .any b0 43 v) (h : DataW.Trod enc Tryd.prog W base spare held 43 v d p) : ∃ f u : Int, v = .agg #[.int .i64 f, .int .i64 u] := by
  obtain ⟨v0, v1, y0, y1, n, rfl, -, -, t0, t1⟩ := open_agg2 Tryd.underlying43 (by kernel_rfl) (by kernel_rfl) hv h
  obtain ⟨n0, e0, -, -⟩ := DataW.trod_int Tryd.underlying3 t0
  obtain ⟨n1, e1, -, -⟩ := DataW.trod_int Tryd.underlying3 t1
  injection e0 with e0
  injection e1 with e1
  exact ⟨n0, n1, by rw [e0, e1]⟩
end Go.Proofs.YticehhmfbpjamaaDoor.cal
