/- The memory of Parse: the network that is being read; what appends to it. No walk in this text. -/
import Derived.Test.YtdgllaiejhnjmaaDoorMdA
import Derived.Test.YtdgllaiejhnjmaaDoorNetZ
import Derived.Test.YtdgllaiejhnjmaaDoorInv2
import Derived.Test.YtdgllaiejhnjmaaDoorMdP
namespace Go.Proofs.YtdgllaiejhnjmaaDoor.mod
open Go.RowKit lex net aggs kit strs deck

/-- the words of a line, as a slice of them can be read -/
def WIn (W : World) (g o : Nat) (ws : List (List UInt8)) : Prop := ∀ i (h : i < ws.length), W.cell? ⟨g, o + i, none⟩ = some (.string (bs ws[i]))
/-- the network that is being read: block x, two rows of its own -/
structure PB (W : World) (x : Nat) (vn vd : Value) (ns : List Nd) (ds : List Dv) : Prop where
  net : ∃ T, W.heap[x]? = some (.cells #[vn, vd] T (0, 0))
  rn : AggsAt 51 3 encNd W (x + 1) vn ns
  rd : AggsAt 47 5 encDv W (x + 1) vd ds
theorem PB.lt {W : World} {x : Nat} {vn vd : Value} {ns : List Nd} {ds : List Dv} (h : PB W x vn vd ns ds) : x < W.heap.size := by obtain ⟨T, e⟩ := h.net; exact lt_of_block e
theorem PB.below {W W' : World} {x : Nat} {vn vd : Value} {ns : List Nd} {ds : List Dv} (h : PB W x vn vd ns ds) (b : Below W.heap.size W W') : PB W' x vn vd ns ds where
  net := by obtain ⟨T, e⟩ := h.net; exact ⟨T, by rw [b.block x (lt_of_block e)]; exact e⟩
  rn := h.rn.below b
  rd := h.rd.below b
theorem PB.cells {W : World} {x : Nat} {vn vd : Value} {ns : List Nd} {ds : List Dv} (h : PB W x vn vd ns ds) : W.cell? ⟨x, 0, none⟩ = some vn ∧ W.cell? ⟨x, 1, none⟩ = some vd ∧ W.frozen? ⟨x, 0, none⟩ = false ∧ W.frozen? ⟨x, 1, none⟩ = false := by
  obtain ⟨T, e⟩ := h.net
  exact ⟨(cell_at e 0).1, (cell_at e 1).1, (cell_at e 0).2, (cell_at e 1).2⟩
theorem PB.own {W : World} {x : Nat} {vn vd : Value} {ns : List Nd} {ds : List Dv} (h : PB W x vn vd ns ds) {g T : Nat} {C : Array Value} (e : W.heap[g]? = some (.cells C T (0, 0))) (h1 : T ≠ 51) (h2 : T ≠ 47) : vn.ownBlock ≠ some g ∧ vd.ownBlock ≠ some g := by
  constructor
  · intro k
    rcases h.rn.2 with ⟨h, _⟩ | ⟨g', c', cur', rfl, _, hh', _⟩
    · rw [h] at k; cases k
    · simp only [Value.ownBlock, Option.some.injEq] at k
      rw [k, e] at hh'
      injection hh' with hh'
      injection hh' with _ e2
      exact h1 e2
  · intro k
    rcases h.rd.2 with ⟨h, _⟩ | ⟨g', c', cur', rfl, _, hh', _⟩
    · rw [h] at k; cases k
    · simp only [Value.ownBlock, Option.some.injEq] at k
      rw [k, e] at hh'
      injection hh' with hh'
      injection hh' with _ e2
      exact h2 e2
theorem news_of {W : World} {B T : Nat} {C : Array Value} {l : List Value} (e : W.heap[B]? = some (.cells C T (0, 0))) (hC : C.toList = l) : ∀ j u, l[j]? = some u → W.cell? ((⟨B, 0, none⟩ : Addr).add j) = some u := by
  intro j u hu
  rw [Go.WideShapes.add_plain, Nat.zero_add, (cell_at e j).1]
  rw [← hC] at hu
  simpa using hu
/-- while something is appended: operation ia appends, operation st puts the row in its place -/
structure SN (w : World) (x : Nat) (vn vd : Value) (ns : List Nd) (ds : List Dv) (y : Nd) (ia st : Nat) (done : Nat → Bool) (W : World) : Prop where
  below : Below x w W
  keep : ∀ k, k < w.heap.size → k ≠ x → vn.ownBlock ≠ some k → W.heap[k]? = w.heap[k]?
  net : ∃ T p, W.heap[x]? = some (.cells #[p, vd] T (0, 0)) ∧ (done st = false → p = vn) ∧ (done st = true → AggsAt 51 3 encNd W (x + 1) p (ns ++ [y]))
  row : done ia = false → AggsAt 51 3 encNd W (x + 1) vn ns
  oth : AggsAt 47 5 encDv W (x + 1) vd ds
section
variable {w W W' : World} {x ia st : Nat} {vn vd v : Value} {ns : List Nd} {ds : List Dv} {y : Nd} {done : Nat → Bool}
theorem SN.start (h : PB w x vn vd ns ds) : SN w x vn vd ns ds y ia st (fun _ => false) w.drew where
  below := (Below.refl _ _).drew
  keep := fun _ _ _ _ => rfl
  net := by obtain ⟨T, e⟩ := h.net; exact ⟨T, vn, e, fun _ => rfl, fun h => by cases h⟩
  row := fun _ => h.rn
  oth := h.rd
theorem SN.mark (h : SN w x vn vd ns ds y ia st done W) (i : Nat) (h1 : i ≠ ia) (h2 : i ≠ st) : SN w x vn vd ns ds y ia st (fun j => if j = i then true else done j) W := by
  obtain ⟨a, b, ⟨T, p, e, e1, e2⟩, c, d⟩ := h
  have q1 : (if ia = i then true else done ia) = done ia := if_neg (Ne.symm h1)
  have q2 : (if st = i then true else done st) = done st := if_neg (Ne.symm h2)
  exact ⟨a, b, ⟨T, p, e, fun h => e1 (q2.symm.trans h), fun h => e2 (q2.symm.trans h)⟩, fun h => c (q1.symm.trans h), d⟩
theorem SN.alloc (h : SN w x vn vd ns ds y ia st done W) (o : Obj) : SN w x vn vd ns ds y ia st done (W.alloc o) := by
  obtain ⟨a, b, ⟨T, p, e, e1, e2⟩, c, d⟩ := h
  have bb := below_box W o
  have hx := lt_of_block e
  exact ⟨a.trans (bb.mono (Nat.le_of_lt hx)), fun k h1 h2 h3 => (bb.block k (Nat.lt_of_lt_of_le h1 a.size)).trans (b k h1 h2 h3), ⟨T, p, by rw [bb.block x hx]; exact e, e1, fun h => (e2 h).below bb⟩, fun h => (c h).below bb, d.below bb⟩
theorem SN.app (h : SN w x vn vd ns ds y ia st done W) (h1 : done ia = false) (h2 : done st = false) (hne : st ≠ ia) (hg : W.grownBy W' vn.ownBlock) : SN w x vn vd ns ds y ia st (fun j => if j = ia then true else done j) W' := by
  obtain ⟨a, b, ⟨T, p, e, e1, e2⟩, c, d⟩ := h
  have hr := c h1
  have o1 : ∀ k, vn.ownBlock = some k → x + 1 ≤ k := fun k hk => (World.ownsRow.lt hr k hk).1
  have hx := lt_of_block e
  have q2 : (if st = ia then true else done st) = done st := if_neg hne
  refine ⟨a.grown hg (Nat.le_of_lt hx) (fun k hk => by have := o1 k hk; omega), fun k g1 g2 g3 => (hg.block k (Nat.lt_of_lt_of_le g1 a.size) (fun e => g3 e.symm)).trans (b k g1 g2 g3), ⟨T, p, by rw [hg.block x hx (fun e => by have := o1 x e.symm; omega)]; exact e, fun _ => e1 h2, fun h => ?_⟩, fun h => ?_, ?_⟩
  · rw [q2, h2] at h; cases h
  · rw [if_pos rfl] at h; cases h
  · refine World.ownsRow.kept d hg ?_
    cases e : vd.ownBlock with
    | none => exact .inl rfl
    | some k => right; exact fun e2 => own_type hr d (by decide) k e2.symm e
theorem SN.store (h : SN w x vn vd ns ds y ia st done W) (_hxw : x < w.heap.size) (hv : AggsAt 51 3 encNd W (x + 1) v (ns ++ [y])) : SN w x vn vd ns ds y ia st (fun j => if j = st then true else done j) (W.setCell ⟨x, 0, none⟩ v) := by
  obtain ⟨a, b, ⟨T, p, e, e1, e2⟩, c, d⟩ := h
  have gs : W.grownBy (W.setCell ⟨x, 0, none⟩ v) (some x) := gb_set v (gb_refl W _)
  have hr : ∀ k, some x = some k → k < x + 1 := fun k hk => by cases hk; omega
  refine ⟨a.grown gs (Nat.le_of_lt (lt_of_block e)) (fun k hk => by cases hk; omega), fun k g1 g2 g3 => (gs.block k (Nat.lt_of_lt_of_le g1 a.size) (by simpa using g2)).trans (b k g1 g2 g3), ⟨T, v, by have := set_at (i := 0) v e; exact this, fun h => ?_, fun _ => hv.grown gs hr⟩, fun h => ?_, d.grown gs hr⟩
  · rw [if_pos rfl] at h; cases h
  · by_cases q : ia = st
    · rw [if_pos q] at h; cases h
    · rw [if_neg q] at h; exact (c h).grown gs hr
theorem SN.fin (h : SN w x vn vd ns ds y ia st done W) (hd : done st = true) : Below x w W ∧ ∃ v, PB W x v vd (ns ++ [y]) ds := by
  obtain ⟨a, b, ⟨T, p, e, e1, e2⟩, c, d⟩ := h
  exact ⟨a, p, ⟨⟨T, e⟩, e2 hd, d⟩⟩
end
/-- while something is appended: operation ia appends, operation st puts the row in its place -/
structure SD (w : World) (x : Nat) (vn vd : Value) (ns : List Nd) (ds : List Dv) (y : Dv) (ia st : Nat) (done : Nat → Bool) (W : World) : Prop where
  below : Below x w W
  keep : ∀ k, k < w.heap.size → k ≠ x → vd.ownBlock ≠ some k → W.heap[k]? = w.heap[k]?
  net : ∃ T p, W.heap[x]? = some (.cells #[vn, p] T (0, 0)) ∧ (done st = false → p = vd) ∧ (done st = true → AggsAt 47 5 encDv W (x + 1) p (ds ++ [y]))
  row : done ia = false → AggsAt 47 5 encDv W (x + 1) vd ds
  oth : AggsAt 51 3 encNd W (x + 1) vn ns
section
variable {w W W' : World} {x ia st : Nat} {vn vd v : Value} {ns : List Nd} {ds : List Dv} {y : Dv} {done : Nat → Bool}
theorem SD.start (h : PB w x vn vd ns ds) : SD w x vn vd ns ds y ia st (fun _ => false) w.drew where
  below := (Below.refl _ _).drew
  keep := fun _ _ _ _ => rfl
  net := by obtain ⟨T, e⟩ := h.net; exact ⟨T, vd, e, fun _ => rfl, fun h => by cases h⟩
  row := fun _ => h.rd
  oth := h.rn
theorem SD.mark (h : SD w x vn vd ns ds y ia st done W) (i : Nat) (h1 : i ≠ ia) (h2 : i ≠ st) : SD w x vn vd ns ds y ia st (fun j => if j = i then true else done j) W := by
  obtain ⟨a, b, ⟨T, p, e, e1, e2⟩, c, d⟩ := h
  have q1 : (if ia = i then true else done ia) = done ia := if_neg (Ne.symm h1)
  have q2 : (if st = i then true else done st) = done st := if_neg (Ne.symm h2)
  exact ⟨a, b, ⟨T, p, e, fun h => e1 (q2.symm.trans h), fun h => e2 (q2.symm.trans h)⟩, fun h => c (q1.symm.trans h), d⟩
theorem SD.alloc (h : SD w x vn vd ns ds y ia st done W) (o : Obj) : SD w x vn vd ns ds y ia st done (W.alloc o) := by
  obtain ⟨a, b, ⟨T, p, e, e1, e2⟩, c, d⟩ := h
  have bb := below_box W o
  have hx := lt_of_block e
  exact ⟨a.trans (bb.mono (Nat.le_of_lt hx)), fun k h1 h2 h3 => (bb.block k (Nat.lt_of_lt_of_le h1 a.size)).trans (b k h1 h2 h3), ⟨T, p, by rw [bb.block x hx]; exact e, e1, fun h => (e2 h).below bb⟩, fun h => (c h).below bb, d.below bb⟩
theorem SD.app (h : SD w x vn vd ns ds y ia st done W) (h1 : done ia = false) (h2 : done st = false) (hne : st ≠ ia) (hg : W.grownBy W' vd.ownBlock) : SD w x vn vd ns ds y ia st (fun j => if j = ia then true else done j) W' := by
  obtain ⟨a, b, ⟨T, p, e, e1, e2⟩, c, d⟩ := h
  have hr := c h1
  have o1 : ∀ k, vd.ownBlock = some k → x + 1 ≤ k := fun k hk => (World.ownsRow.lt hr k hk).1
  have hx := lt_of_block e
  have q2 : (if st = ia then true else done st) = done st := if_neg hne
  refine ⟨a.grown hg (Nat.le_of_lt hx) (fun k hk => by have := o1 k hk; omega), fun k g1 g2 g3 => (hg.block k (Nat.lt_of_lt_of_le g1 a.size) (fun e => g3 e.symm)).trans (b k g1 g2 g3), ⟨T, p, by rw [hg.block x hx (fun e => by have := o1 x e.symm; omega)]; exact e, fun _ => e1 h2, fun h => ?_⟩, fun h => ?_, ?_⟩
  · rw [q2, h2] at h; cases h
  · rw [if_pos rfl] at h; cases h
  · refine World.ownsRow.kept d hg ?_
    cases e : vn.ownBlock with
    | none => exact .inl rfl
    | some k => right; exact fun e2 => own_type hr d (by decide) k e2.symm e
theorem SD.store (h : SD w x vn vd ns ds y ia st done W) (_hxw : x < w.heap.size) (hv : AggsAt 47 5 encDv W (x + 1) v (ds ++ [y])) : SD w x vn vd ns ds y ia st (fun j => if j = st then true else done j) (W.setCell ⟨x, 1, none⟩ v) := by
  obtain ⟨a, b, ⟨T, p, e, e1, e2⟩, c, d⟩ := h
  have gs : W.grownBy (W.setCell ⟨x, 1, none⟩ v) (some x) := gb_set v (gb_refl W _)
  have hr : ∀ k, some x = some k → k < x + 1 := fun k hk => by cases hk; omega
  refine ⟨a.grown gs (Nat.le_of_lt (lt_of_block e)) (fun k hk => by cases hk; omega), fun k g1 g2 g3 => (gs.block k (Nat.lt_of_lt_of_le g1 a.size) (by simpa using g2)).trans (b k g1 g2 g3), ⟨T, v, by have := set_at (i := 1) v e; exact this, fun h => ?_, fun _ => hv.grown gs hr⟩, fun h => ?_, d.grown gs hr⟩
  · rw [if_pos rfl] at h; cases h
  · by_cases q : ia = st
    · rw [if_pos q] at h; cases h
    · rw [if_neg q] at h; exact (c h).grown gs hr
theorem SD.fin (h : SD w x vn vd ns ds y ia st done W) (hd : done st = true) : Below x w W ∧ ∃ v, PB W x vn v ns (ds ++ [y]) := by
  obtain ⟨a, b, ⟨T, p, e, e1, e2⟩, c, d⟩ := h
  exact ⟨a, p, ⟨⟨T, e⟩, d, e2 hd⟩⟩
end
end Go.Proofs.YtdgllaiejhnjmaaDoor.mod
