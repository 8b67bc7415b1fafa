/- The networks that are made of numbers: what their nodes and devices are; that such a network is valid; what a network that is being made looks like in memory. No walk in this text. -/
import Derived.Test.YtoeojhabhnoojaaDoorNetD
import Derived.Test.YtoeojhabhnoojaaDoorMkNm
import Derived.Laws.OwnMore
import Derived.Maps.Range
namespace Go.Proofs.YtoeojhabhnoojaaDoor.net
open Go.RowKit lex aggs kit deck

def lett (k : Int) : UInt8 := if k = 1 then 76 else if k = 2 then 81 else if k = 3 then 68 else if k = 4 then 69 else if k = 5 then 83 else 71
theorem lett_L {k : Int} : isL (lett k) = true := by
  unfold lett; repeat (first | rfl | split)
theorem lett_N {k : Int} : lett k ≠ 78 := by
  unfold lett; repeat (first | decide | split)
def GoodN (ns : List Nd) : Prop := ∀ i (hi : i < ns.length), ns[i].nm = nmB 78 i ∧ 0 ≤ ns[i].cu ∧ ns[i].cu ≤ 50 ∧ 0 ≤ ns[i].co ∧ ns[i].co ≤ 2
def GoodD (N : Nat) (ds : List Dv) : Prop := ∀ i (hi : i < ds.length), ds[i].nm = nmB (lett ds[i].ki) i ∧ (1 ≤ ds[i].ki ∧ ds[i].ki ≤ 6) ∧ itsB N ds[i] = true ∧ 0 ≤ ds[i].co ∧ ds[i].co ≤ 2
theorem GoodN.nil : GoodN [] := fun i hi => by cases hi
theorem GoodD.nil (N : Nat) : GoodD N [] := fun i hi => by cases hi
theorem GoodN.snoc {ns : List Nd} (h : GoodN ns) {x : Nd} (h1 : x.nm = nmB 78 ns.length) (h2 : 0 ≤ x.cu ∧ x.cu ≤ 50) (h3 : 0 ≤ x.co ∧ x.co ≤ 2) : GoodN (ns ++ [x]) := by
  intro i hi
  by_cases e : i < ns.length
  · rw [List.getElem_append_left e]; exact h i e
  · obtain rfl : i = ns.length := by simp at hi; omega
    rw [List.getElem_concat_length rfl]; exact ⟨h1, h2.1, h2.2, h3⟩
theorem GoodD.snoc {N : Nat} {ds : List Dv} (h : GoodD N ds) {x : Dv} (h1 : x.nm = nmB (lett x.ki) ds.length) (h2 : 1 ≤ x.ki ∧ x.ki ≤ 6) (h3 : itsB N x = true) (h4 : 0 ≤ x.co ∧ x.co ≤ 2) : GoodD N (ds ++ [x]) := by
  intro i hi
  by_cases e : i < ds.length
  · rw [List.getElem_append_left e]; exact h i e
  · obtain rfl : i = ds.length := by simp at hi; omega
    rw [List.getElem_concat_length rfl]; exact ⟨h1, h2, h3, h4⟩
theorem good_chk {ns : List Nd} {ds : List Dv} (h1 : ns.length ≤ 32) (h2 : ds.length ≤ 64) (hN : GoodN ns) (hD : GoodD ns.length ds) : chk ns ds = 0 := by
  unfold chk
  rw [if_neg (by omega)]
  have e1 : fe (ndsE ns) ns.length = 0 := fe_ok (fun i hi => by
    rw [nms_take ns i hi _ rfl]
    obtain ⟨g1, g2, g3, g4, g5⟩ := hN i hi
    unfold ndE
    rw [if_pos (by rw [g1]; exact nmB_name (by decide) (by omega)), if_pos, if_pos ⟨g2, by omega, g4, by omega⟩]
    refine fnd_none (fun k hk e => ?_)
    have hk2 : k < i := by simp [nmsN] at hk; omega
    have : (nmsN (ns.take i))[k] = nmB 78 k := by
      simp only [nmsN, List.getElem_map, List.getElem_take]
      exact (hN k (by omega)).1
    rw [this, g1] at e
    have := (nmB_inj (by omega) (by omega) e).2; omega)
  rw [if_pos e1]
  refine fe_ok (fun i hi => ?_)
  rw [dms_take ns ds i hi _ rfl]
  obtain ⟨g1, g2, g3, g4, g5⟩ := hD i hi
  unfold dvE
  rw [if_pos (by rw [g1]; exact nmB_name lett_L (by omega)), if_pos, if_pos g2, if_pos g3, if_pos ⟨g4, by omega⟩]
  constructor
  · refine fnd_none (fun k hk e => ?_)
    have hk2 : k < ns.length := by simpa [nmsN] using hk
    have : (nmsN ns)[k] = nmB 78 k := by
      simp only [nmsN, List.getElem_map]
      exact (hN k hk2).1
    rw [this, g1] at e
    exact lett_N (nmB_inj (by omega) (by omega) e).1.symm
  · refine fnd_none (fun k hk e => ?_)
    have hk2 : k < i := by simp [nmsD] at hk; omega
    have : (nmsD (ds.take i))[k] = nmB (lett (ds[k]'(by omega)).ki) k := by
      simp only [nmsD, List.getElem_map, List.getElem_take]
      exact (hD k (by omega)).1
    rw [this, g1] at e
    have := (nmB_inj (by omega) (by omega) e).2; omega

/-! ### in memory -/
theorem own_type {w : World} {b1 b2 e1 e2 s1 s2 n1 n2 : Nat} {v1 v2 : Value} {xs ys : List Value} (h1 : w.ownsRow b1 e1 s1 v1 n1 xs) (h2 : w.ownsRow b2 e2 s2 v2 n2 ys) (hne : e1 ≠ e2) : ∀ k, v1.ownBlock = some k → v2.ownBlock ≠ some k := by
  intro k hk hk2
  rcases h1.2 with ⟨h, _⟩ | ⟨g, c, cur, rfl, _, hh, _⟩
  · rw [h] at hk; cases hk
  · rcases h2.2 with ⟨h, _⟩ | ⟨g', c', cur', rfl, _, hh', _⟩
    · rw [h] at hk2; cases hk2
    · simp only [Value.ownBlock, Option.some.injEq] at hk hk2
      subst hk
      rw [hk2, hh] at hh'
      injection hh' with hh'
      injection hh' with _ e
      exact hne e
/-- a network is being made: the deck, the pointer to it, the limit, the result's cells, the network's cells, its two rows -/
structure NB (w0 wr : World) (a : Option Addr) (len cap bd x : Nat) (M : Int) (vn vd : Value) (ns : List Nd) (ds : List Dv) : Prop where
  game : Game w0 wr bd a len cap
  ptr : ∃ T, wr.heap[x]? = some (.cells #[.pointer (some ⟨bd, 0, none⟩)] T (0, 0))
  lim : ∃ T, wr.heap[x + 1]? = some (.cells #[.int .i64 M] T (0, 0))
  res : ∃ T p q, wr.heap[x + 1 + 1]? = some (.cells #[p, q] T (0, 0))
  net : ∃ T, wr.heap[x + 1 + 1 + 1]? = some (.cells #[vn, vd] T (0, 0))
  rn : AggsAt 67 3 encNd wr (x + 4) vn ns
  rd : AggsAt 57 5 encDv wr (x + 4) vd ds
  lt : bd < x
  mine : w0.heap.size ≤ x
  size : x + 4 ≤ wr.heap.size
section
variable {w0 wr w' : World} {a : Option Addr} {len cap bd x : Nat} {M : Int} {vn vd v' : Value} {ns : List Nd} {ds : List Dv}
theorem NB.kept (h : NB w0 wr a len cap bd x M vn vd ns ds) (hg : wr.grownBy w' (some bd)) (hm : Game w0 w' bd a len cap) : NB w0 w' a len cap bd x M vn vd ns ds where
  game := hm
  ptr := by obtain ⟨T, e⟩ := h.ptr; exact ⟨T, by rw [hg.block x (by have := h.size; omega) (by have := h.lt; simp; omega)]; exact e⟩
  lim := by obtain ⟨T, e⟩ := h.lim; exact ⟨T, by rw [hg.block (x + 1) (by have := h.size; omega) (by have := h.lt; simp; omega)]; exact e⟩
  res := by obtain ⟨T, p, q, e⟩ := h.res; exact ⟨T, p, q, by rw [hg.block (x + 1 + 1) (by have := h.size; omega) (by have := h.lt; simp; omega)]; exact e⟩
  net := by obtain ⟨T, e⟩ := h.net; exact ⟨T, by rw [hg.block (x + 1 + 1 + 1) (by have := h.size; omega) (by have := h.lt; simp; omega)]; exact e⟩
  rn := h.rn.grown hg (fun k hk => by cases hk; have := h.lt; omega)
  rd := h.rd.grown hg (fun k hk => by cases hk; have := h.lt; omega)
  lt := h.lt
  mine := h.mine
  size := Nat.le_trans h.size hg.size
theorem NB.pushN {x' : Nd} (h : NB w0 wr a len cap bd x M vn vd ns ds) (ho : w'.ownsRow (x + 4) 67 3 v' (ns.length + 1) (flat encNd ns ++ encNd x')) (hg : wr.grownBy w' vn.ownBlock) :
    NB w0 (w'.setCell ⟨x + 1 + 1 + 1, 0, none⟩ v') a len cap bd x M v' vd (ns ++ [x']) ds := by
  have o1 : ∀ k, vn.ownBlock = some k → x + 4 ≤ k := fun k hk => (World.ownsRow.lt h.rn k hk).1
  have hs := h.size
  have g1 : ∀ k, k < x + 4 → w'.heap[k]? = wr.heap[k]? := fun k hk => hg.block k (by omega) (fun e => by have := o1 k e.symm; omega)
  have g2 : ∀ k, k ≠ x + 1 + 1 + 1 → (w'.setCell ⟨x + 1 + 1 + 1, 0, none⟩ v').heap[k]? = w'.heap[k]? := fun k hk => by rw [Below.heap_setCell _ _ _ _ (fun e => by dsimp only at e; omega)]
  have gs : w'.grownBy (w'.setCell ⟨x + 1 + 1 + 1, 0, none⟩ v') (some (x + 1 + 1 + 1)) := gb_set _ (gb_refl w' _)
  have hlt := h.lt
  have hmi := h.mine
  refine { game := ?_, ptr := ?_, lim := ?_, res := ?_, net := ?_, rn := ?_, rd := ?_, lt := h.lt, mine := h.mine, size := ?_ }
  · have e := h.game.own h.rn (by omega) hg
    exact e.grown gs (by simp; omega) (fun k hk => by cases hk; omega)
  · obtain ⟨T, e⟩ := h.ptr; exact ⟨T, by rw [g2 x (by omega), g1 x (by omega)]; exact e⟩
  · obtain ⟨T, e⟩ := h.lim; exact ⟨T, by rw [g2 (x + 1) (by omega), g1 (x + 1) (by omega)]; exact e⟩
  · obtain ⟨T, p, q, e⟩ := h.res; exact ⟨T, p, q, by rw [g2 (x + 1 + 1) (by omega), g1 (x + 1 + 1) (by omega)]; exact e⟩
  · obtain ⟨T, e⟩ := h.net
    exact ⟨T, set_at v' (by rw [g1 (x + 1 + 1 + 1) (by omega)]; exact e)⟩
  · exact (AggsAt.push ho).grown gs (fun k hk => by cases hk; omega)
  · have h1 := World.ownsRow.kept h.rd hg (by
      cases e : vd.ownBlock with
      | none => exact .inl rfl
      | some k => right; exact fun e2 => own_type h.rn h.rd (by decide) k e2.symm e)
    exact AggsAt.grown h1 gs (fun k hk => by cases hk; omega)
  · have := hg.size; simp; omega
theorem NB.pushD {x' : Dv} (h : NB w0 wr a len cap bd x M vn vd ns ds) (ho : w'.ownsRow (x + 4) 57 5 v' (ds.length + 1) (flat encDv ds ++ encDv x')) (hg : wr.grownBy w' vd.ownBlock) :
    NB w0 (w'.setCell ⟨x + 1 + 1 + 1, 1, none⟩ v') a len cap bd x M vn v' ns (ds ++ [x']) := by
  have o1 : ∀ k, vd.ownBlock = some k → x + 4 ≤ k := fun k hk => (World.ownsRow.lt h.rd k hk).1
  have hs := h.size
  have g1 : ∀ k, k < x + 4 → w'.heap[k]? = wr.heap[k]? := fun k hk => hg.block k (by omega) (fun e => by have := o1 k e.symm; omega)
  have g2 : ∀ k, k ≠ x + 1 + 1 + 1 → (w'.setCell ⟨x + 1 + 1 + 1, 1, none⟩ v').heap[k]? = w'.heap[k]? := fun k hk => by rw [Below.heap_setCell _ _ _ _ (fun e => by dsimp only at e; omega)]
  have gs : w'.grownBy (w'.setCell ⟨x + 1 + 1 + 1, 1, none⟩ v') (some (x + 1 + 1 + 1)) := gb_set _ (gb_refl w' _)
  have hlt := h.lt
  have hmi := h.mine
  refine { game := ?_, ptr := ?_, lim := ?_, res := ?_, net := ?_, rn := ?_, rd := ?_, lt := h.lt, mine := h.mine, size := ?_ }
  · have e := h.game.own h.rd (by omega) hg
    exact e.grown gs (by simp; omega) (fun k hk => by cases hk; omega)
  · obtain ⟨T, e⟩ := h.ptr; exact ⟨T, by rw [g2 x (by omega), g1 x (by omega)]; exact e⟩
  · obtain ⟨T, e⟩ := h.lim; exact ⟨T, by rw [g2 (x + 1) (by omega), g1 (x + 1) (by omega)]; exact e⟩
  · obtain ⟨T, p, q, e⟩ := h.res; exact ⟨T, p, q, by rw [g2 (x + 1 + 1) (by omega), g1 (x + 1 + 1) (by omega)]; exact e⟩
  · obtain ⟨T, e⟩ := h.net
    exact ⟨T, set_at v' (by rw [g1 (x + 1 + 1 + 1) (by omega)]; exact e)⟩
  · have h1 := World.ownsRow.kept h.rn hg (by
      cases e : vn.ownBlock with
      | none => exact .inl rfl
      | some k => right; exact fun e2 => own_type h.rd h.rn (by decide) k e2.symm e)
    exact AggsAt.grown h1 gs (fun k hk => by cases hk; omega)
  · exact (AggsAt.push ho).grown gs (fun k hk => by cases hk; omega)
  · have := hg.size; simp; omega
end
end Go.Proofs.YtoeojhabhnoojaaDoor.net
