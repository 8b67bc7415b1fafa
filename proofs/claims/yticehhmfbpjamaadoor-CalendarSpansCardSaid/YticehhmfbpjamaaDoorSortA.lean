/- Between the words for rows of structs and the words of the library's sort: what the sort asks, what is read behind it. No walk in this text. -/
import Derived.Test.YticehhmfbpjamaaDoorAggs
import Derived.Shelf.SlSortCmp.WholeK
import Derived.Sort.OwnSorted
namespace Go.Proofs.YticehhmfbpjamaaDoor.aggs
open Go.RowKit Go.Sort
variable {α : Type} [Inhabited α]

theorem list_get! {β : Type} [Inhabited β] (l : List β) (i : Nat) (h : i < l.length) : l[i]? = some l[i]! := by
  rw [List.getElem?_eq_getElem h]; simp [h]
theorem holds_cells {enc : α → List Value} {k : Nat} (hk : ∀ x, (enc x).length = k) {w : World} {g : Nat} {xs : List α} (h : CellsAt enc k w g 0 xs) (hf : ∀ j, w.frozen? ⟨g, j, none⟩ = false) : HoldsK enc k w g 0 xs.toArray := by
  intro t ht
  rw [size_flatK] at ht
  have hs : xs.toArray.size = xs.length := by simp
  rw [hs] at ht
  have k0 : 0 < k := by
    rcases Nat.eq_zero_or_pos k with h | h
    · subst h; simp at ht
    · exact h
  have hd : t / k < xs.length := (Nat.div_lt_iff_lt_mul k0).2 ht
  have hm : t % k < k := Nat.mod_lt _ k0
  have e : t = t / k * k + t % k := by rw [Nat.mul_comm]; exact (Nat.div_add_mod t k).symm
  refine ⟨?_, by rw [Nat.zero_add]; exact hf t⟩
  rw [get_flatK _ _ _ _ (by rw [hs]; exact ht)]
  have hx : xs.toArray[t / k]! = xs[t / k] := by simp [hd]
  rw [hx]
  have := h.get hk (t / k) hd (t % k) hm _ (list_get! _ _ (by rw [hk]; exact hm))
  rw [← e] at this
  exact this
theorem cells_holds {enc : α → List Value} {k : Nat} (hk : ∀ x, (enc x).length = k) {w : World} {g : Nat} {d : Array α} (h : HoldsK enc k w g 0 d) : CellsAt enc k w g 0 d.toList := by
  intro i u hu
  have hlt := (List.getElem?_eq_some_iff.1 hu).1
  rw [flat_length hk] at hlt
  have hs : d.toList.length = d.size := by simp
  rw [hs] at hlt
  have k0 : 0 < k := by
    rcases Nat.eq_zero_or_pos k with h | h
    · subst h; simp at hlt
    · exact h
  have hd : i / k < d.size := (Nat.div_lt_iff_lt_mul k0).2 hlt
  have hm : i % k < k := Nat.mod_lt _ k0
  have e : i = i / k * k + i % k := by rw [Nat.mul_comm]; exact (Nat.div_add_mod i k).symm
  have h1 := (h.cell hd hm).1
  rw [e, flat_get hk _ _ (by rw [hs]; exact hd) _ hm] at hu
  rw [list_get! _ _ (by rw [hk]; exact hm)] at hu
  have hx : d[i / k]! = d.toList[i / k]'(by rw [hs]; exact hd) := by simp [hd]
  rw [hx, Nat.add_assoc, ← e] at h1
  rw [h1]; exact hu
theorem grownBy_sortedK {enc : α → List Value} {k : Nat} {w : World} {g n : Nat} {os : Array Obj} (d : Array α) : w.grownBy (sortWorldK enc k w g 0 n d os) (some g) := by
  refine ⟨rfl, rfl, rfl, by simp [sortWorldK, putRowK], fun j hj hne => ?_⟩
  show (grow (putRowK enc k (Sort.ahead w n) g 0 d) os).heap[j]? = _
  rw [heap_grow_old _ _ (by simpa [putRowK] using hj)]
  have : g ≠ j := fun e => hne (by rw [e])
  simp [putRowK, putRow, mapBlock, Sort.ahead, Array.getElem?_modify, this]
theorem holds_sortedK {enc : α → List Value} {k : Nat} {w : World} {g n : Nat} {os : Array Obj} {d0 d : Array α} (h : HoldsK enc k w g 0 d0) (hg : g < w.heap.size) (hs : d.size = d0.size) : HoldsK enc k (sortWorldK enc k w g 0 n d os) g 0 d := by
  unfold sortWorldK
  exact holdsK_grow enc k _ os g 0 d (by simpa [putRowK] using hg) (holdsK_putRowK enc k _ g 0 d0 d (holdsK_ahead enc k w n g 0 d0 h) hs)
end Go.Proofs.YticehhmfbpjamaaDoor.aggs
