/- Slices of structs: rows of cells, k cells an element. What a slice of the call's own holds; what is read of it. No walk in this text. -/
import Derived.Test.YthdjpmiohfaphaaGreatDoorProg
import Derived.WalkKit
import Derived.Lib.Hide
import Derived.Maps.AppendAt
import Derived.Laws.OwnMore
namespace Go.Proofs.YthdjpmiohfaphaaGreatDoor.aggs
open Go.RowKit
variable {α : Type}

/-- the cells of a list, one element behind the other -/
def flat (enc : α → List Value) (xs : List α) : List Value := xs.flatMap enc
theorem flat_nil (enc : α → List Value) : flat enc [] = [] := rfl
theorem flat_cons (enc : α → List Value) (x : α) (xs : List α) : flat enc (x :: xs) = enc x ++ flat enc xs := rfl
theorem flat_append (enc : α → List Value) (xs ys : List α) : flat enc (xs ++ ys) = flat enc xs ++ flat enc ys := by simp [flat]
theorem flat_one (enc : α → List Value) (x : α) : flat enc [x] = enc x := by simp [flat]
theorem flat_length {enc : α → List Value} {k : Nat} (hk : ∀ x, (enc x).length = k) (xs : List α) : (flat enc xs).length = xs.length * k := by
  induction xs with
  | nil => simp [flat]
  | cons x xs ih => rw [flat_cons, List.length_append, hk, ih, List.length_cons, Nat.add_mul]; omega
theorem flat_get {enc : α → List Value} {k : Nat} (hk : ∀ x, (enc x).length = k) (xs : List α) (j : Nat) (hj : j < xs.length) (i : Nat) (hi : i < k) : (flat enc xs)[j * k + i]? = (enc xs[j])[i]? := by
  induction xs generalizing j with
  | nil => cases hj
  | cons x xs ih =>
    rw [flat_cons]
    cases j with
    | zero => rw [Nat.zero_mul, Nat.zero_add, List.getElem?_append_left (by rw [hk]; exact hi)]; rfl
    | succ j =>
      have e : (j + 1) * k + i = k + (j * k + i) := by rw [Nat.add_mul]; omega
      rw [e, List.getElem?_append_right (by rw [hk]; omega), hk, Nat.add_sub_cancel_left, ih j (by simpa using hj)]; rfl
theorem flat_set {enc : α → List Value} {k : Nat} (hk : ∀ x, (enc x).length = k) (xs : List α) (j : Nat) (hj : j < xs.length) (i : Nat) (hi : i < k) (y : α) (u : Value) (hy : enc y = (enc xs[j]).set i u) :
    (flat enc xs).set (j * k + i) u = flat enc (xs.set j y) := by
  induction xs generalizing j with
  | nil => cases hj
  | cons x xs ih =>
    cases j with
    | zero =>
      rw [flat_cons, Nat.zero_mul, Nat.zero_add, List.set_append_left _ _ (by rw [hk]; exact hi), List.set_cons_zero, flat_cons]
      rw [List.getElem_cons_zero] at hy
      rw [hy]
    | succ j =>
      have e : (j + 1) * k + i = k + (j * k + i) := by rw [Nat.add_mul]; omega
      rw [flat_cons, e, List.set_append_right _ _ (by rw [hk]; omega), hk, Nat.add_sub_cancel_left, List.set_cons_succ, flat_cons]
      rw [ih j (by simpa using hj) (by simpa using hy)]
theorem flat_oneCell {enc : α → List Value} (h1 : ∀ x, ∀ v ∈ enc x, v.oneCell' = true) (xs : List α) : ∀ u ∈ flat enc xs, u.oneCell' = true := by
  intro u hu
  obtain ⟨x, _, hx⟩ := List.mem_flatMap.1 hu
  exact h1 x u hx

/-- cells of a row hold the list: where they lie, whoever owns them -/
def CellsAt (enc : α → List Value) (_k : Nat) (w : World) (b off : Nat) (xs : List α) : Prop := ∀ i u, (flat enc xs)[i]? = some u → w.cell? ⟨b, off + i, none⟩ = some u
theorem CellsAt.get {enc : α → List Value} {k : Nat} {w : World} {b off : Nat} {xs : List α} (h : CellsAt enc k w b off xs) (hk : ∀ x, (enc x).length = k) (j : Nat) (hj : j < xs.length) (i : Nat) (hi : i < k) (u : Value) (hu : (enc xs[j])[i]? = some u) :
    w.cell? ⟨b, off + (j * k + i), none⟩ = some u := h _ _ (by rw [flat_get hk xs j hj i hi]; exact hu)
theorem CellsAt.below {enc : α → List Value} {k : Nat} {w w' : World} {b off : Nat} {xs : List α} (h : CellsAt enc k w b off xs) (hb : Below w.heap.size w w') : CellsAt enc k w' b off xs := by
  intro i u hu
  have := h i u hu
  rw [hb.cell (p := ⟨b, off + i, none⟩) (World.block_lt_of_cell? w _ this)]; exact this

/-- slice value v of the call's own holds the elements xs -/
def AggsAt (T k : Nat) (enc : α → List Value) (w : World) (base : Nat) (v : Value) (xs : List α) : Prop := w.ownsRow base T k v xs.length (flat enc xs)
section
variable {T k : Nat} {enc : α → List Value} {w w' : World} {base : Nat} {v v' u : Value} {xs ys : List α}
theorem AggsAt.nil (T k : Nat) (enc : α → List Value) (w : World) (base : Nat) : AggsAt T k enc w base (.slice none 0 0) [] := World.ownsRow_nil _ _ _ _
theorem AggsAt.grown {row : Option Nat} (h : AggsAt T k enc w base v xs) (hg : w.grownBy w' row) (hr : ∀ k, row = some k → k < base) : AggsAt T k enc w' base v xs := by
  refine World.ownsRow.kept h hg ?_
  cases hb : v.ownBlock with
  | none => exact .inl rfl
  | some k =>
    right
    intro e
    have := hr k e.symm
    have := (World.ownsRow.lt h k hb).1
    omega
theorem AggsAt.alloc (h : AggsAt T k enc w base v xs) (o : Obj) : AggsAt T k enc (w.alloc o) base v xs := World.ownsRow.alloc h o
theorem AggsAt.below (h : AggsAt T k enc w base v xs) (hb : Below w.heap.size w w') : AggsAt T k enc w' base v xs :=
  h.grown (row := none) ⟨hb.os, hb.tape, hb.output, hb.size, fun k hk _ => hb.block k hk⟩ (fun k hk => by cases hk)
theorem AggsAt.mono {base' : Nat} (h : AggsAt T k enc w base v xs) (hb : base' ≤ base) : AggsAt T k enc w base' v xs := by
  obtain ⟨h1, h2⟩ := h
  refine ⟨h1, ?_⟩
  rcases h2 with h2 | ⟨g, cap, cur, a, b, c⟩
  · exact .inl h2
  · exact .inr ⟨g, cap, cur, a, Nat.le_trans hb b, c⟩
theorem AggsAt.push {x : α} (h : w'.ownsRow base T k v' (xs.length + 1) (flat enc xs ++ enc x)) : AggsAt T k enc w' base v' (xs ++ [x]) := by
  unfold AggsAt; rw [flat_append, flat_one, List.length_append]; exact h
theorem AggsAt.push_many (h : w'.ownsRow base T k v' (xs.length + ys.length) (flat enc xs ++ flat enc ys)) : AggsAt T k enc w' base v' (xs ++ ys) := by
  unfold AggsAt; rw [flat_append, List.length_append]; exact h
theorem AggsAt.shape (h : AggsAt T k enc w base v xs) (hk : ∀ x, (enc x).length = k) : (v = .slice none 0 0 ∧ xs = []) ∨
    ∃ g cap, v = .slice (some ⟨g, 0, none⟩) xs.length cap ∧ base ≤ g ∧ g < w.heap.size ∧ xs.length ≤ cap ∧ cap ≤ maxLen ∧ CellsAt enc k w g 0 xs ∧ ∀ j, w.frozen? ⟨g, j, none⟩ = false := by
  have h0 := h
  obtain ⟨h1, h2⟩ := h
  rcases h2 with ⟨h2, h3⟩ | ⟨g, cap, cur, rfl, hb, hh, hn, hm, hc⟩
  · exact .inl ⟨h2, List.eq_nil_of_length_eq_zero h3⟩
  · refine .inr ⟨g, cap, rfl, hb, lt_of_block hh, hn, hm, fun i u hu => ?_, fun j => World.ownsRow.frozenAt h0 j⟩
    rw [Nat.zero_add, World.ownsRow.cellAt h0 i, hu]
    have := (List.getElem?_eq_some_iff.1 hu).1
    rwa [flat_length hk] at this
theorem AggsAt.length (h : AggsAt T k enc w base v xs) (hk : ∀ x, (enc x).length = k) : ∃ a c, v = .slice a xs.length c ∧ xs.length ≤ maxLen := by
  rcases h.shape hk with ⟨rfl, rfl⟩ | ⟨g, cap, rfl, _, _, h1, h2, _⟩
  · exact ⟨none, 0, rfl, Nat.zero_le _⟩
  · exact ⟨_, _, rfl, Nat.le_trans h1 h2⟩
theorem AggsAt.set {g cap N : Nat} (hN : xs.length = N) (h : AggsAt T k enc w base (.slice (some ⟨g, 0, none⟩) N cap) xs) (hk : ∀ x, (enc x).length = k) (j : Nat) (hj : j < xs.length) (i : Nat) (hi : i < k) (y : α) (u : Value) (hy : enc y = (enc xs[j]).set i u) :
    AggsAt T k enc (w.setCell ⟨g, j * k + i, none⟩ u) base (.slice (some ⟨g, 0, none⟩) N cap) (xs.set j y) ∧ w.grownBy (w.setCell ⟨g, j * k + i, none⟩ u) (some g) := by
  subst hN
  have := World.ownsRow.stored h (j * k + i) u
  refine ⟨?_, this.2⟩
  have h1 := this.1
  rw [flat_set hk xs j hj i hi y u hy] at h1
  unfold AggsAt
  rw [List.length_set]; exact h1
end
/-- one element in a block of its own -/
theorem cell_one {enc : α → List Value} {_k : Nat} (w : World) (C : Array Value) (T : Nat) (x : α) (hC : C.toList = enc x) : ∀ j u, (enc x)[j]? = some u → (w.alloc (.cells C T)).cell? ((⟨w.heap.size, 0, none⟩ : Addr).add j) = some u := by
  intro j u hu
  have e : (w.alloc (.cells C T)).heap[w.heap.size]? = some (.cells C T (0, 0)) := heap_alloc_new w _
  rw [← hC] at hu
  rw [Go.WideShapes.add_plain, Nat.zero_add]
  simp only [World.cell?, e]
  simpa using hu
end Go.Proofs.YthdjpmiohfaphaaGreatDoor.aggs
