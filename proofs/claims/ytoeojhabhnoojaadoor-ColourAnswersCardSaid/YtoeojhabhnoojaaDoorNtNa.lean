/- A handed network, as the walks are told of it. No walk in this text. -/
import Derived.Test.YtoeojhabhnoojaaDoorNetN
import Derived.Deep.Slices
import Derived.Deep.Grids
import Derived.Lib.SmallJoins
import Derived.OpenShut
namespace Go.Proofs.YtoeojhabhnoojaaDoor.net
open Go.RowKit Go.ChangeShapes Go.WideShapes Go.Deep Go.Joins lex aggs deck kit

theorem cell_block {P : Program} {W : World} {b0 T e : Nat} {a : Addr} {len cap : Nat} (ht : P.underlying T = some (.slice e)) (h : Cell.okWide P W .any b0 T (.slice (some a) len cap)) : ∃ b off, a = ⟨b, off, none⟩ ∧ b < W.heap.size := by
  simp only [Cell.okWide, Cell.ok, ht] at h
  obtain ⟨-, -, -, hs, row, cells, hsh, -⟩ := h
  obtain ⟨b, off, spot⟩ := a
  simp only at hs hsh
  subst hs
  refine ⟨b, off, rfl, ?_⟩
  rcases Nat.lt_or_ge b W.heap.size with h | h
  · exact h
  · unfold World.shape? at hsh
    rw [Array.getElem?_eq_none h] at hsh
    cases hsh
/-- a row of structs that was handed in -/
theorem rows_trod {α H : Type} [Inhabited α] {P : Program} {en : TypeId × Value → H} {W : World} {base fuel b0 T te k : Nat} {spare : Nat → Bool} {held : Bool} {v : Value} {x : DataW H × List MemPlace} (enc : α → List Value) (good : α → Prop) (hlen : ∀ y, (enc y).length = k) (hk0 : 0 < k)
    (hT : P.underlying T = some (.slice te)) (hk : P.cellsOf te = k) (hv : Cell.okWide P W .any b0 T v)
    (dec : ∀ (n : Nat) (cs : List Value) (x : DataW H × List MemPlace), cs.length = k → DataW.trod en P W base spare held n te cs = some x → ∃ y : α, enc y = cs ∧ good y)
    (h : DataW.trod en P W base spare held fuel T [v] = some x) : ∃ a len cap xs, v = .slice a len cap ∧ xs.length = len ∧ RIn enc k W a xs ∧ (∀ y ∈ xs, good y) ∧ len ≤ cap ∧ cap ≤ maxLen := by
  rcases open_slice hT h with ⟨hcs, _⟩ | ⟨a, len, cap, m, n, D, Pl, hcs, _, hl, hm, hmm, _, hx⟩
  · injection hcs with e
    subst e
    exact ⟨none, 0, 0, [], rfl, rfl, .inl ⟨rfl, rfl⟩, (fun y hy => by cases hy), Nat.le_refl _, Nat.zero_le _⟩
  · injection hcs with e
    subst e
    obtain ⟨b, off, rfl, hb⟩ := cell_block hT hv
    have hlm : len ≤ m := by rw [hmm]; split <;> omega
    obtain ⟨Y, hY⟩ := choose_lt (α := α) (n := len) (p := fun i y => good y ∧ ∀ j, j < k → W.cell? ⟨b, off + i * k + j, none⟩ = (enc y)[j]?) (fun i hi => by
      obtain ⟨cs', h1, h2⟩ := hx i (by omega)
      rw [hk] at h1
      obtain ⟨_, h3, h4⟩ := World.cells?_some h1
      obtain ⟨y, e, hg⟩ := dec n cs' _ h3 h2
      refine ⟨y, hg, fun j hj => ?_⟩
      have := h4 j hj
      rw [add_plain, add_plain] at this
      rw [e]; exact this)
    refine ⟨some ⟨b, off, none⟩, len, cap, (List.range len).map Y, rfl, by simp, .inr ⟨b, off, rfl, hb, fun i u hu => ?_⟩, fun y hy => ?_, hl, hm⟩
    · have hi : i < len * k := by
        have := (List.getElem?_eq_some_iff.1 hu).1
        rw [flat_length hlen] at this
        simpa using this
      have hd : i / k < len := (Nat.div_lt_iff_lt_mul hk0).2 hi
      have hr : i % k < k := Nat.mod_lt _ hk0
      have e : i / k * k + i % k = i := by rw [Nat.mul_comm]; exact Nat.div_add_mod i k
      rw [← e, flat_get hlen _ (i / k) (by simpa using hd) (i % k) hr] at hu
      have := (hY (i / k) hd).2 (i % k) hr
      simp only [List.getElem_map, List.getElem_range] at hu
      rw [hu] at this
      rw [show off + i = off + i / k * k + i % k by omega]
      exact this
    · obtain ⟨i, hi, rfl⟩ := List.mem_map.1 hy
      exact (hY i (by simpa using hi)).1
set_option maxRecDepth 100000 in
theorem nd_dec {H : Type} {enc : TypeId × Value → H} {W : World} {base fuel : Nat} {spare : Nat → Bool} {held : Bool} {cs : List Value} {x : DataW H × List MemPlace} (hl : cs.length = 3)
    (h : DataW.trod enc Tryd.prog W base spare held fuel 67 cs = some x) : ∃ y : Nd, encNd y = cs ∧ y.nm.size ≤ maxLen := by
  obtain ⟨xs, n, -, -, -, hlen, hf⟩ := DataW.trod_struct Tryd.underlying67 h
  have c9 : Tryd.prog.cellsOf 9 = 1 := by kernel_rfl
  have c3 : Tryd.prog.cellsOf 3 = 1 := by kernel_rfl
  match cs, hl with
  | [v0, v1, v2], _ =>
    have h0 := hf 0 _ rfl
    rw [List.getElem?_eq_getElem (by rw [hlen]; decide)] at h0
    have h0 : DataW.trod enc Tryd.prog W base spare held n 9 (([v0, v1, v2].drop 0).take (Tryd.prog.cellsOf 9)) = some _ := h0
    rw [c9] at h0
    have h0 : DataW.trod enc Tryd.prog W base spare held n 9 [v0] = some _ := h0
    have h1 := hf 1 _ rfl
    rw [List.getElem?_eq_getElem (by rw [hlen]; decide)] at h1
    have h1 : DataW.trod enc Tryd.prog W base spare held n 3 (([v0, v1, v2].drop 1).take (Tryd.prog.cellsOf 3)) = some _ := h1
    rw [c3] at h1
    have h1 : DataW.trod enc Tryd.prog W base spare held n 3 [v1] = some _ := h1
    have h2 := hf 2 _ rfl
    rw [List.getElem?_eq_getElem (by rw [hlen]; decide)] at h2
    have h2 : DataW.trod enc Tryd.prog W base spare held n 3 (([v0, v1, v2].drop 2).take (Tryd.prog.cellsOf 3)) = some _ := h2
    rw [c3] at h2
    have h2 : DataW.trod enc Tryd.prog W base spare held n 3 [v2] = some _ := h2
    obtain ⟨s0, e0, -, z0⟩ := DataW.trod_string Tryd.underlying9 h0
    injection e0 with e0
    subst e0
    obtain ⟨n1, e1, -, z1⟩ := DataW.trod_int Tryd.underlying3 h1
    injection e1 with e1
    subst e1
    have b1 := bounds_i64 z1
    obtain ⟨n2, e2, -, z2⟩ := DataW.trod_int Tryd.underlying3 h2
    injection e2 with e2
    subst e2
    have b2 := bounds_i64 z2
    exact ⟨⟨s0, n1, n2⟩, rfl, z0⟩
set_option maxRecDepth 100000 in
theorem dv_dec {H : Type} {enc : TypeId × Value → H} {W : World} {base fuel : Nat} {spare : Nat → Bool} {held : Bool} {cs : List Value} {x : DataW H × List MemPlace} (hl : cs.length = 5)
    (h : DataW.trod enc Tryd.prog W base spare held fuel 57 cs = some x) : ∃ y : Dv, encDv y = cs ∧ Fits y := by
  obtain ⟨xs, n, -, -, -, hlen, hf⟩ := DataW.trod_struct Tryd.underlying57 h
  have c9 : Tryd.prog.cellsOf 9 = 1 := by kernel_rfl
  have c3 : Tryd.prog.cellsOf 3 = 1 := by kernel_rfl
  match cs, hl with
  | [v0, v1, v2, v3, v4], _ =>
    have h0 := hf 0 _ rfl
    rw [List.getElem?_eq_getElem (by rw [hlen]; decide)] at h0
    have h0 : DataW.trod enc Tryd.prog W base spare held n 9 (([v0, v1, v2, v3, v4].drop 0).take (Tryd.prog.cellsOf 9)) = some _ := h0
    rw [c9] at h0
    have h0 : DataW.trod enc Tryd.prog W base spare held n 9 [v0] = some _ := h0
    have h1 := hf 1 _ rfl
    rw [List.getElem?_eq_getElem (by rw [hlen]; decide)] at h1
    have h1 : DataW.trod enc Tryd.prog W base spare held n 3 (([v0, v1, v2, v3, v4].drop 1).take (Tryd.prog.cellsOf 3)) = some _ := h1
    rw [c3] at h1
    have h1 : DataW.trod enc Tryd.prog W base spare held n 3 [v1] = some _ := h1
    have h2 := hf 2 _ rfl
    rw [List.getElem?_eq_getElem (by rw [hlen]; decide)] at h2
    have h2 : DataW.trod enc Tryd.prog W base spare held n 3 (([v0, v1, v2, v3, v4].drop 2).take (Tryd.prog.cellsOf 3)) = some _ := h2
    rw [c3] at h2
    have h2 : DataW.trod enc Tryd.prog W base spare held n 3 [v2] = some _ := h2
    have h3 := hf 3 _ rfl
    rw [List.getElem?_eq_getElem (by rw [hlen]; decide)] at h3
    have h3 : DataW.trod enc Tryd.prog W base spare held n 3 (([v0, v1, v2, v3, v4].drop 3).take (Tryd.prog.cellsOf 3)) = some _ := h3
    rw [c3] at h3
    have h3 : DataW.trod enc Tryd.prog W base spare held n 3 [v3] = some _ := h3
    have h4 := hf 4 _ rfl
    rw [List.getElem?_eq_getElem (by rw [hlen]; decide)] at h4
    have h4 : DataW.trod enc Tryd.prog W base spare held n 3 (([v0, v1, v2, v3, v4].drop 4).take (Tryd.prog.cellsOf 3)) = some _ := h4
    rw [c3] at h4
    have h4 : DataW.trod enc Tryd.prog W base spare held n 3 [v4] = some _ := h4
    obtain ⟨s0, e0, -, z0⟩ := DataW.trod_string Tryd.underlying9 h0
    injection e0 with e0
    subst e0
    obtain ⟨n1, e1, -, z1⟩ := DataW.trod_int Tryd.underlying3 h1
    injection e1 with e1
    subst e1
    have b1 := bounds_i64 z1
    obtain ⟨n2, e2, -, z2⟩ := DataW.trod_int Tryd.underlying3 h2
    injection e2 with e2
    subst e2
    have b2 := bounds_i64 z2
    obtain ⟨n3, e3, -, z3⟩ := DataW.trod_int Tryd.underlying3 h3
    injection e3 with e3
    subst e3
    have b3 := bounds_i64 z3
    obtain ⟨n4, e4, -, z4⟩ := DataW.trod_int Tryd.underlying3 h4
    injection e4 with e4
    subst e4
    have b4 := bounds_i64 z4
    exact ⟨⟨s0, n1, n2, n3, n4⟩, rfl, ⟨b2.1, b2.2, b3.1, b3.2, z0⟩⟩
set_option maxRecDepth 100000 in
theorem net_arg {H : Type} {enc : TypeId × Value → H} {W : World} {base b0 : Nat} {spare : Nat → Bool} {held : Bool} {v : Value} {d : DataW H} {p : List MemPlace}
    (hv : Value.okWide Tryd.prog W .any b0 26 v) (h : DataW.Trod enc Tryd.prog W base spare held 26 v d p) :
    ∃ a b N c M e ns ds, v = .agg #[.slice a N c, .slice b M e] ∧ NetIn W a b N c M e ns ds := by
  obtain ⟨v0, v1, y0, y1, n, rfl, -, -, t0, t1⟩ := open_agg2 Tryd.underlying26 (by kernel_rfl) (by kernel_rfl) hv h
  simp only [Value.okWide, Tryd.underlying26] at hv
  obtain ⟨cs, e, -, ts, hts, -, hrow⟩ := hv
  injection e with e
  subst e
  obtain rfl : ts = [23, 24] := by
    have : Tryd.prog.cellTypes Tryd.prog.depth 26 = some [23, 24] := by kernel_rfl
    rw [this] at hts; injection hts with hts; exact hts.symm
  obtain ⟨u0, e0, k0⟩ := hrow 0 v0 rfl
  obtain ⟨u1, e1, k1⟩ := hrow 1 v1 rfl
  obtain rfl : u0 = 23 := by simpa using e0.symm
  obtain rfl : u1 = 24 := by simpa using e1.symm
  obtain ⟨a, N, c, ns, rfl, l1, r1, g1, c1, c2⟩ := rows_trod encNd (fun y => y.nm.size ≤ maxLen) encNd_len (by decide) Tryd.underlying23 (by kernel_rfl) k0 (fun _ _ _ hl h => nd_dec hl h) t0
  obtain ⟨b, M, e, ds, rfl, l2, r2, g2, d1, d2⟩ := rows_trod encDv Fits encDv_len (by decide) Tryd.underlying24 (by kernel_rfl) k1 (fun _ _ _ hl h => dv_dec hl h) t1
  exact ⟨a, b, N, c, M, e, ns, ds, rfl, ⟨l1, l2, r1, r2, g1, g2, c1, c2, d1, d2⟩⟩
end Go.Proofs.YtoeojhabhnoojaaDoor.net
