/- The walks of layer 3: how far each node is from another one. -/
import Derived.Test.YtleggojgcaefdaaDoorNetE
import Derived.Test.YtleggojgcaefdaaDoorDeck
import Derived.Laws.Tables
import Derived.Laws.Rows
import Derived.Deep.WholeRow
import Derived.Laws.CopyOwn
namespace Go.Proofs.YtleggojgcaefdaaDoor.net
open Go.RowKit lex aggs kit deck

/-- an array of 32 ints -/
def IsArr (A : Array Value) (F : Nat → Int) : Prop := A.size = 32 ∧ ∀ t, t < 32 → A[t]? = some (.int .i64 (F t))
def ArrAt (w : World) (b : Nat) (F : Nat → Int) : Prop := ∃ A T, w.heap[b]? = some (.cells A T (0, 0)) ∧ IsArr A F
theorem ArrAt.get {w : World} {b : Nat} {F : Nat → Int} (h : ArrAt w b F) {t : Nat} (ht : t < 32) : w.cell? ⟨b, t, none⟩ = some (.int .i64 (F t)) ∧ w.frozen? ⟨b, t, none⟩ = false := by
  obtain ⟨A, T, h1, h2, h3⟩ := h
  have := h3 t ht
  exact ⟨by simp [World.cell?, h1, this], by simp [World.frozen?, h1]⟩
theorem ArrAt.lt {w : World} {b : Nat} {F : Nat → Int} (h : ArrAt w b F) : b < w.heap.size := by obtain ⟨A, T, h1, _⟩ := h; exact lt_of_block h1
theorem ArrAt.below {w w' : World} {b B : Nat} {F : Nat → Int} (h : ArrAt w b F) (hb : Below B w w') (hB : b < B) : ArrAt w' b F := by
  obtain ⟨A, T, h1, h2⟩ := h
  exact ⟨A, T, by rw [hb.block b hB]; exact h1, h2⟩
theorem ArrAt.other {w w' : World} {b : Nat} {F : Nat → Int} {row : Option Nat} (h : ArrAt w b F) (hg : w.grownBy w' row) (hne : some b ≠ row) : ArrAt w' b F := by
  have hl := h.lt
  obtain ⟨A, T, h1, h2⟩ := h
  exact ⟨A, T, by rw [hg.block b hl hne]; exact h1, h2⟩
theorem ArrAt.congr {w : World} {b : Nat} {F G : Nat → Int} (h : ArrAt w b F) (e : ∀ t, t < 32 → F t = G t) : ArrAt w b G := by
  obtain ⟨A, T, h1, h2, h3⟩ := h
  exact ⟨A, T, h1, h2, fun t ht => by rw [h3 t ht, e t ht]⟩
theorem ArrAt.set {w : World} {b : Nat} {F : Nat → Int} (h : ArrAt w b F) (t : Nat) (ht : t < 32) (x : Int) : ArrAt (w.setCell ⟨b, t, none⟩ (.int .i64 x)) b (upd F t x) := by
  obtain ⟨A, T, h1, h2, h3⟩ := h
  have hlt := lt_of_block h1
  have h' : w.heap[b] = .cells A T (0, 0) := by simpa [Array.getElem?_eq_getElem hlt] using h1
  refine ⟨A.setIfInBounds t (.int .i64 x), T, ?_, by simpa using h2, fun i hi => ?_⟩
  · show (w.heap.modify b _)[b]? = _
    rw [Array.getElem?_eq_getElem (by simpa using hlt), Array.getElem_modify_self, h']
    first | rfl | simp [Array.set!_eq_setIfInBounds]
  · rw [Array.getElem?_setIfInBounds]
    by_cases e : t = i
    · subst e; simp [h2, ht, upd_eq]
    · rw [if_neg e, h3 i hi, upd_ne F x (fun e' => e e'.symm)]
theorem ArrAt.new {w : World} {A : Array Value} {T : Nat} {F : Nat → Int} (h : IsArr A F) : ArrAt (w.alloc (.cells A T)) w.heap.size F := ⟨A, T, heap_alloc_new w _, h⟩
theorem grown_alloc {w w1 : World} {row : Option Nat} (h : w.grownBy w1 row) (o : Obj) : w.grownBy (w1.alloc o) row where
  os := h.os
  tape := h.tape
  output := h.output
  size := by have := h.size; simp; omega
  block := fun k hk hne => by
    rw [((Below.refl w1.heap.size w1).alloc (Nat.le_refl _) o).block k (Nat.lt_of_lt_of_le hk h.size)]; exact h.block k hk hne
theorem isArr_zero : IsArr #[.int .i64 0, .int .i64 0, .int .i64 0, .int .i64 0, .int .i64 0, .int .i64 0, .int .i64 0, .int .i64 0, .int .i64 0, .int .i64 0, .int .i64 0, .int .i64 0, .int .i64 0, .int .i64 0, .int .i64 0, .int .i64 0, .int .i64 0, .int .i64 0, .int .i64 0, .int .i64 0, .int .i64 0, .int .i64 0, .int .i64 0, .int .i64 0, .int .i64 0, .int .i64 0, .int .i64 0, .int .i64 0, .int .i64 0, .int .i64 0, .int .i64 0, .int .i64 0] (fun _ => 0) := by
  have e : (#[.int .i64 0, .int .i64 0, .int .i64 0, .int .i64 0, .int .i64 0, .int .i64 0, .int .i64 0, .int .i64 0, .int .i64 0, .int .i64 0, .int .i64 0, .int .i64 0, .int .i64 0, .int .i64 0, .int .i64 0, .int .i64 0, .int .i64 0, .int .i64 0, .int .i64 0, .int .i64 0, .int .i64 0, .int .i64 0, .int .i64 0, .int .i64 0, .int .i64 0, .int .i64 0, .int .i64 0, .int .i64 0, .int .i64 0, .int .i64 0, .int .i64 0, .int .i64 0] : Array Value) = Array.replicate 32 (.int .i64 0) := rfl
  rw [e]; exact ⟨by simp, fun t ht => by simp [ht]⟩
theorem isArr_one (x : Int) : IsArr #[.int .i64 x, .int .i64 0, .int .i64 0, .int .i64 0, .int .i64 0, .int .i64 0, .int .i64 0, .int .i64 0, .int .i64 0, .int .i64 0, .int .i64 0, .int .i64 0, .int .i64 0, .int .i64 0, .int .i64 0, .int .i64 0, .int .i64 0, .int .i64 0, .int .i64 0, .int .i64 0, .int .i64 0, .int .i64 0, .int .i64 0, .int .i64 0, .int .i64 0, .int .i64 0, .int .i64 0, .int .i64 0, .int .i64 0, .int .i64 0, .int .i64 0, .int .i64 0] (fun t => if t = 0 then x else 0) := by
  refine ⟨rfl, fun t ht => ?_⟩
  by_cases h : t = 0
  · subst h; rfl
  · show _ = some (Value.int .i64 (if t = 0 then x else 0))
    rw [if_neg h]
    have e : (#[.int .i64 x, .int .i64 0, .int .i64 0, .int .i64 0, .int .i64 0, .int .i64 0, .int .i64 0, .int .i64 0, .int .i64 0, .int .i64 0, .int .i64 0, .int .i64 0, .int .i64 0, .int .i64 0, .int .i64 0, .int .i64 0, .int .i64 0, .int .i64 0, .int .i64 0, .int .i64 0, .int .i64 0, .int .i64 0, .int .i64 0, .int .i64 0, .int .i64 0, .int .i64 0, .int .i64 0, .int .i64 0, .int .i64 0, .int .i64 0, .int .i64 0, .int .i64 0] : Array Value) = (Array.replicate 32 (.int .i64 0)).setIfInBounds 0 (.int .i64 x) := rfl
    rw [e, Array.getElem?_setIfInBounds, if_neg (fun e => h e.symm)]
    simp [ht]
/-- over device i, where it may be used -/
def nb (ds : List Dv) (us : List Bool) (i v : Nat) : Int := if us.getD i false = true then acr (ds.getD i default) v else -1
theorem nb_sym {ds : List Dv} {us : List Bool} {N : Nat} (h : ∀ i, i < ds.length → itsB N (ds.getD i default) = true) : Sym (nb ds us) ds.length N := by
  intro i hi v hv
  unfold nb
  by_cases hu : us.getD i false = true
  · rw [if_pos hu]
    rcases acr_in (v := (v : Int)) (h i hi) with e | ⟨h1, h2, h3⟩
    · exact .inl e
    · refine .inr ⟨(acr (ds.getD i default) v).toNat, by omega, by omega, ?_⟩
      rw [if_pos hu, Int.toNat_of_nonneg h1]; exact h3
  · rw [if_neg hu]; exact .inl rfl

theorem start3 (w : World) (x y : Value) : NtAt (((w.alloc (.cells #[x, y] 26)).alloc (.cells #[.int .i64 0, .int .i64 0, .int .i64 0, .int .i64 0, .int .i64 0, .int .i64 0, .int .i64 0, .int .i64 0, .int .i64 0, .int .i64 0, .int .i64 0, .int .i64 0, .int .i64 0, .int .i64 0, .int .i64 0, .int .i64 0, .int .i64 0, .int .i64 0, .int .i64 0, .int .i64 0, .int .i64 0, .int .i64 0, .int .i64 0, .int .i64 0, .int .i64 0, .int .i64 0, .int .i64 0, .int .i64 0, .int .i64 0, .int .i64 0, .int .i64 0, .int .i64 0] 72)).alloc (.cells #[.int .i64 0, .int .i64 0, .int .i64 0, .int .i64 0, .int .i64 0, .int .i64 0, .int .i64 0, .int .i64 0, .int .i64 0, .int .i64 0, .int .i64 0, .int .i64 0, .int .i64 0, .int .i64 0, .int .i64 0, .int .i64 0, .int .i64 0, .int .i64 0, .int .i64 0, .int .i64 0, .int .i64 0, .int .i64 0, .int .i64 0, .int .i64 0, .int .i64 0, .int .i64 0, .int .i64 0, .int .i64 0, .int .i64 0, .int .i64 0, .int .i64 0, .int .i64 0] 72)) w.heap.size x y ∧
    ArrAt (((w.alloc (.cells #[x, y] 26)).alloc (.cells #[.int .i64 0, .int .i64 0, .int .i64 0, .int .i64 0, .int .i64 0, .int .i64 0, .int .i64 0, .int .i64 0, .int .i64 0, .int .i64 0, .int .i64 0, .int .i64 0, .int .i64 0, .int .i64 0, .int .i64 0, .int .i64 0, .int .i64 0, .int .i64 0, .int .i64 0, .int .i64 0, .int .i64 0, .int .i64 0, .int .i64 0, .int .i64 0, .int .i64 0, .int .i64 0, .int .i64 0, .int .i64 0, .int .i64 0, .int .i64 0, .int .i64 0, .int .i64 0] 72)).alloc (.cells #[.int .i64 0, .int .i64 0, .int .i64 0, .int .i64 0, .int .i64 0, .int .i64 0, .int .i64 0, .int .i64 0, .int .i64 0, .int .i64 0, .int .i64 0, .int .i64 0, .int .i64 0, .int .i64 0, .int .i64 0, .int .i64 0, .int .i64 0, .int .i64 0, .int .i64 0, .int .i64 0, .int .i64 0, .int .i64 0, .int .i64 0, .int .i64 0, .int .i64 0, .int .i64 0, .int .i64 0, .int .i64 0, .int .i64 0, .int .i64 0, .int .i64 0, .int .i64 0] 72)) (w.heap.size + 1) (fun _ => 0) ∧
    ArrAt (((w.alloc (.cells #[x, y] 26)).alloc (.cells #[.int .i64 0, .int .i64 0, .int .i64 0, .int .i64 0, .int .i64 0, .int .i64 0, .int .i64 0, .int .i64 0, .int .i64 0, .int .i64 0, .int .i64 0, .int .i64 0, .int .i64 0, .int .i64 0, .int .i64 0, .int .i64 0, .int .i64 0, .int .i64 0, .int .i64 0, .int .i64 0, .int .i64 0, .int .i64 0, .int .i64 0, .int .i64 0, .int .i64 0, .int .i64 0, .int .i64 0, .int .i64 0, .int .i64 0, .int .i64 0, .int .i64 0, .int .i64 0] 72)).alloc (.cells #[.int .i64 0, .int .i64 0, .int .i64 0, .int .i64 0, .int .i64 0, .int .i64 0, .int .i64 0, .int .i64 0, .int .i64 0, .int .i64 0, .int .i64 0, .int .i64 0, .int .i64 0, .int .i64 0, .int .i64 0, .int .i64 0, .int .i64 0, .int .i64 0, .int .i64 0, .int .i64 0, .int .i64 0, .int .i64 0, .int .i64 0, .int .i64 0, .int .i64 0, .int .i64 0, .int .i64 0, .int .i64 0, .int .i64 0, .int .i64 0, .int .i64 0, .int .i64 0] 72)) (w.heap.size + 1 + 1) (fun _ => 0) ∧
    Below w.heap.size w (((w.alloc (.cells #[x, y] 26)).alloc (.cells #[.int .i64 0, .int .i64 0, .int .i64 0, .int .i64 0, .int .i64 0, .int .i64 0, .int .i64 0, .int .i64 0, .int .i64 0, .int .i64 0, .int .i64 0, .int .i64 0, .int .i64 0, .int .i64 0, .int .i64 0, .int .i64 0, .int .i64 0, .int .i64 0, .int .i64 0, .int .i64 0, .int .i64 0, .int .i64 0, .int .i64 0, .int .i64 0, .int .i64 0, .int .i64 0, .int .i64 0, .int .i64 0, .int .i64 0, .int .i64 0, .int .i64 0, .int .i64 0] 72)).alloc (.cells #[.int .i64 0, .int .i64 0, .int .i64 0, .int .i64 0, .int .i64 0, .int .i64 0, .int .i64 0, .int .i64 0, .int .i64 0, .int .i64 0, .int .i64 0, .int .i64 0, .int .i64 0, .int .i64 0, .int .i64 0, .int .i64 0, .int .i64 0, .int .i64 0, .int .i64 0, .int .i64 0, .int .i64 0, .int .i64 0, .int .i64 0, .int .i64 0, .int .i64 0, .int .i64 0, .int .i64 0, .int .i64 0, .int .i64 0, .int .i64 0, .int .i64 0, .int .i64 0] 72)) ∧
    (((w.alloc (.cells #[x, y] 26)).alloc (.cells #[.int .i64 0, .int .i64 0, .int .i64 0, .int .i64 0, .int .i64 0, .int .i64 0, .int .i64 0, .int .i64 0, .int .i64 0, .int .i64 0, .int .i64 0, .int .i64 0, .int .i64 0, .int .i64 0, .int .i64 0, .int .i64 0, .int .i64 0, .int .i64 0, .int .i64 0, .int .i64 0, .int .i64 0, .int .i64 0, .int .i64 0, .int .i64 0, .int .i64 0, .int .i64 0, .int .i64 0, .int .i64 0, .int .i64 0, .int .i64 0, .int .i64 0, .int .i64 0] 72)).alloc (.cells #[.int .i64 0, .int .i64 0, .int .i64 0, .int .i64 0, .int .i64 0, .int .i64 0, .int .i64 0, .int .i64 0, .int .i64 0, .int .i64 0, .int .i64 0, .int .i64 0, .int .i64 0, .int .i64 0, .int .i64 0, .int .i64 0, .int .i64 0, .int .i64 0, .int .i64 0, .int .i64 0, .int .i64 0, .int .i64 0, .int .i64 0, .int .i64 0, .int .i64 0, .int .i64 0, .int .i64 0, .int .i64 0, .int .i64 0, .int .i64 0, .int .i64 0, .int .i64 0] 72)).heap.size = w.heap.size + 1 + 1 + 1 := by
  refine ⟨((NtAt.new w x y _).alloc _).alloc _, ?_, ?_, ?_, by simp⟩
  · have := ArrAt.new (w := w.alloc (.cells #[x, y] 26)) (T := 72) isArr_zero
    have := this.below (below_box _ (.cells #[.int .i64 0, .int .i64 0, .int .i64 0, .int .i64 0, .int .i64 0, .int .i64 0, .int .i64 0, .int .i64 0, .int .i64 0, .int .i64 0, .int .i64 0, .int .i64 0, .int .i64 0, .int .i64 0, .int .i64 0, .int .i64 0, .int .i64 0, .int .i64 0, .int .i64 0, .int .i64 0, .int .i64 0, .int .i64 0, .int .i64 0, .int .i64 0, .int .i64 0, .int .i64 0, .int .i64 0, .int .i64 0, .int .i64 0, .int .i64 0, .int .i64 0, .int .i64 0] 72)) this.lt
    simpa only [World.size_alloc] using this
  · have := ArrAt.new (w := (w.alloc (.cells #[x, y] 26)).alloc (.cells #[.int .i64 0, .int .i64 0, .int .i64 0, .int .i64 0, .int .i64 0, .int .i64 0, .int .i64 0, .int .i64 0, .int .i64 0, .int .i64 0, .int .i64 0, .int .i64 0, .int .i64 0, .int .i64 0, .int .i64 0, .int .i64 0, .int .i64 0, .int .i64 0, .int .i64 0, .int .i64 0, .int .i64 0, .int .i64 0, .int .i64 0, .int .i64 0, .int .i64 0, .int .i64 0, .int .i64 0, .int .i64 0, .int .i64 0, .int .i64 0, .int .i64 0, .int .i64 0] 72)) (T := 72) isArr_zero
    simpa only [World.size_alloc] using this
  · exact (below_box _ _).trans (((below_box _ _).mono (by simp)).trans ((below_box _ _).mono (by simp; omega)))
/-- the array of what is found and the one of what waits, in blocks z and z + 1 of the call's own -/
structure WB (w0 wr : World) (z : Nat) (F : Nat → Int) (q : Nat → Nat) : Prop where
  bel : Below z w0 wr
  fa : ArrAt wr z F
  qa : ArrAt wr (z + 1) (fun t => (q t : Int))
theorem WB.alloc {w0 wr : World} {z : Nat} {F : Nat → Int} {q : Nat → Nat} (h : WB w0 wr z F q) (o : Obj) : WB w0 (wr.alloc o) z F q :=
  ⟨h.bel.trans ((below_box wr o).mono (by have := h.fa.lt; omega)), h.fa.below (below_box wr o) h.fa.lt, h.qa.below (below_box wr o) h.qa.lt⟩
theorem WB.setF {w0 wr : World} {z : Nat} {F : Nat → Int} {q : Nat → Nat} (h : WB w0 wr z F q) (u : Nat) (hu : u < 32) (x : Int) : WB w0 (wr.setCell ⟨z, u, none⟩ (.int .i64 x)) z (upd F u x) q :=
  have g : wr.grownBy (wr.setCell ⟨z, u, none⟩ (.int .i64 x)) (some z) := gb_set _ (gb_refl wr _)
  ⟨h.bel.grown g (by have := h.fa.lt; omega) (fun k hk => by cases hk; omega), h.fa.set u hu x, h.qa.other g (by simp)⟩
theorem WB.setQ {w0 wr : World} {z : Nat} {F : Nat → Int} {q : Nat → Nat} (h : WB w0 wr z F q) (c : Nat) (hc : c < 32) (x : Nat) : WB w0 (wr.setCell ⟨z + 1, c, none⟩ (.int .i64 (x : Int))) z F (upd q c x) :=
  have g : wr.grownBy (wr.setCell ⟨z + 1, c, none⟩ (.int .i64 (x : Int))) (some (z + 1)) := gb_set _ (gb_refl wr _)
  ⟨h.bel.grown g (by have := h.fa.lt; omega) (fun k hk => by cases hk; exact Nat.le_succ _), h.fa.other g (by simp), (h.qa.set c hc x).congr (fun t _ => by unfold upd; split <;> rfl)⟩
theorem built_queue (x : Int) : Tryd.prog.built 71 [(0, .int .i64 x)] = some #[.int .i64 x, .int .i64 0, .int .i64 0, .int .i64 0, .int .i64 0, .int .i64 0, .int .i64 0, .int .i64 0, .int .i64 0, .int .i64 0, .int .i64 0, .int .i64 0, .int .i64 0, .int .i64 0, .int .i64 0, .int .i64 0, .int .i64 0, .int .i64 0, .int .i64 0, .int .i64 0, .int .i64 0, .int .i64 0, .int .i64 0, .int .i64 0, .int .i64 0, .int .i64 0, .int .i64 0, .int .i64 0, .int .i64 0, .int .i64 0, .int .i64 0, .int .i64 0] := by
  have hi : (Tryd.prog.info? 71).map (·.zero) = some (some (.agg #[.int .i64 0, .int .i64 0, .int .i64 0, .int .i64 0, .int .i64 0, .int .i64 0, .int .i64 0, .int .i64 0, .int .i64 0, .int .i64 0, .int .i64 0, .int .i64 0, .int .i64 0, .int .i64 0, .int .i64 0, .int .i64 0, .int .i64 0, .int .i64 0, .int .i64 0, .int .i64 0, .int .i64 0, .int .i64 0, .int .i64 0, .int .i64 0, .int .i64 0, .int .i64 0, .int .i64 0, .int .i64 0, .int .i64 0, .int .i64 0, .int .i64 0, .int .i64 0])) := by kernel_rfl
  have he : (Tryd.prog.info? 3).map (·.size) = some 1 := by kernel_rfl
  have hu := Tryd.underlying71
  cases hq : Tryd.prog.info? 71 with
  | none => simp [hq] at hi
  | some it =>
    cases hq2 : Tryd.prog.info? 3 with
    | none => simp [hq2] at he
    | some ie =>
      simp [hq] at hi
      simp [hq2] at he
      simp [Program.built, hq, hu, hq2, hi, he, Instr.fill, Value.cells]
theorem one_queue (x : Int) : (#[.int .i64 x, .int .i64 0, .int .i64 0, .int .i64 0, .int .i64 0, .int .i64 0, .int .i64 0, .int .i64 0, .int .i64 0, .int .i64 0, .int .i64 0, .int .i64 0, .int .i64 0, .int .i64 0, .int .i64 0, .int .i64 0, .int .i64 0, .int .i64 0, .int .i64 0, .int .i64 0, .int .i64 0, .int .i64 0, .int .i64 0, .int .i64 0, .int .i64 0, .int .i64 0, .int .i64 0, .int .i64 0, .int .i64 0, .int .i64 0, .int .i64 0, .int .i64 0] : Array Value).all (·.oneCell') = true := by
  have e : (#[.int .i64 x, .int .i64 0, .int .i64 0, .int .i64 0, .int .i64 0, .int .i64 0, .int .i64 0, .int .i64 0, .int .i64 0, .int .i64 0, .int .i64 0, .int .i64 0, .int .i64 0, .int .i64 0, .int .i64 0, .int .i64 0, .int .i64 0, .int .i64 0, .int .i64 0, .int .i64 0, .int .i64 0, .int .i64 0, .int .i64 0, .int .i64 0, .int .i64 0, .int .i64 0, .int .i64 0, .int .i64 0, .int .i64 0, .int .i64 0, .int .i64 0, .int .i64 0] : Array Value) = (Array.replicate 32 (.int .i64 0)).setIfInBounds 0 (.int .i64 x) := rfl
  rw [Array.all_eq_true_iff_forall_mem]
  intro v hv
  have hv : v ∈ (#[.int .i64 x, .int .i64 0, .int .i64 0, .int .i64 0, .int .i64 0, .int .i64 0, .int .i64 0, .int .i64 0, .int .i64 0, .int .i64 0, .int .i64 0, .int .i64 0, .int .i64 0, .int .i64 0, .int .i64 0, .int .i64 0, .int .i64 0, .int .i64 0, .int .i64 0, .int .i64 0, .int .i64 0, .int .i64 0, .int .i64 0, .int .i64 0, .int .i64 0, .int .i64 0, .int .i64 0, .int .i64 0, .int .i64 0, .int .i64 0, .int .i64 0, .int .i64 0] : Array Value).toList := by simpa using hv
  simp only [List.mem_cons, List.not_mem_nil, or_false] at hv
  have : v = .int .i64 x ∨ v = .int .i64 0 := by
    rcases hv with h | h
    · exact .inl h
    · right; repeat (first | exact h | (rcases h with h | h; exact h))
  rcases this with rfl | rfl <;> rfl
theorem wpList_build_as {P : Program} {ops : Array Oper} {rest : List Oper} {o : Oper} {a : Act} {w : World} {Q : Exit → Act → World → Prop} (hg : o.guard = none) (t : TypeId) (parts : Array (Nat × Operand)) (ho : o.op = .build t parts) (cells : Array Value)
    (hf : P.built t (parts.map fun (i, x) => (i, a.eval x)).toList = some cells)
    (h : wpList P ops Q rest (a.put o.dst (.agg cells)) w) : wpList P ops Q (o :: rest) a w :=
  wpList_build hg t parts ho (by rw [hf]; rfl) (by rw [hf]; exact h)
def encB (b : Bool) : List Value := [.bool b]
theorem encB_len (b : Bool) : (encB b).length = 1 := rfl
theorem cells_b {w : World} {b off : Nat} {us : List Bool} (h : CellsAt encB 1 w b off us) (j : Nat) (hj : j < us.length) : w.cell? ⟨b, off + j, none⟩ = some (.bool us[j]) := by
  have := h.get encB_len j hj 0 (by decide) _ rfl
  simpa using this
/-- what distancesTo leaves -/
def DistPost (ds : List Dv) (us : List Bool) (N to : Nat) (w : World) (e : Ending) (w' : World) : Prop :=
  ∃ A D, e = .returned (.agg A) ∧ IsArr A D ∧ IsDist (nb ds us) ds.length N to D ∧ Below w.heap.size w w'
set_option maxRecDepth 100000 in
set_option maxHeartbeats 4000000 in
theorem distancesTo_is (a b u : Option Addr) (N c M d cu to : Nat) (ns : List Nd) (ds : List Dv) (us : List Bool) (w : World) (h : NetIn w a b N c M d ns ds) (hc : chk ns ds = 0) (hu : RIn encB 1 w u us) (hul : us.length = M) (ht : to < N) :
    Calls Tryd.prog 47 #[.agg #[.slice a N c, .slice b M d], .slice u M cu, .int .i64 to] w (DistPost ds us N to w) := by
  have hs := chk_small hc
  rw [h.nlen, h.dlen] at hs
  obtain ⟨hN, hM⟩ := hs
  have HS := Lib.hid (nb_sym (us := us) (N := N) (fun i hi => by have := chk_its hc i hi; rwa [h.nlen] at this))
  have HN := Lib.hid (fun wr (bel : Below w.heap.size w wr) => h.below bel)
  have HU := Lib.hid (fun wr (bel : Below w.heap.size w wr) => hu.below bel)
  have NT := Lib.hid (NtAt.new w (.slice a N c) (.slice b M d) 26)
  have hdl := Lib.hid h.dlen
  have hul := Lib.hid hul
  have n3 := h.dcap
  have n4 := h.dmax
  unfold maxLen at n4
  clear h hc hu
  have S3 := Lib.hid (start3 w (.slice a N c) (.slice b M d))
  go_enter Tryd.func47, Tryd.ntmps47
  go_wp2_with fail
  obtain ⟨w3, hw3⟩ : ∃ w3, ((w.alloc (.cells #[.slice a N c, .slice b M d] 26)).alloc (.cells #[.int .i64 0, .int .i64 0, .int .i64 0, .int .i64 0, .int .i64 0, .int .i64 0, .int .i64 0, .int .i64 0, .int .i64 0, .int .i64 0, .int .i64 0, .int .i64 0, .int .i64 0, .int .i64 0, .int .i64 0, .int .i64 0, .int .i64 0, .int .i64 0, .int .i64 0, .int .i64 0, .int .i64 0, .int .i64 0, .int .i64 0, .int .i64 0, .int .i64 0, .int .i64 0, .int .i64 0, .int .i64 0, .int .i64 0, .int .i64 0, .int .i64 0, .int .i64 0] 72)).alloc (.cells #[.int .i64 0, .int .i64 0, .int .i64 0, .int .i64 0, .int .i64 0, .int .i64 0, .int .i64 0, .int .i64 0, .int .i64 0, .int .i64 0, .int .i64 0, .int .i64 0, .int .i64 0, .int .i64 0, .int .i64 0, .int .i64 0, .int .i64 0, .int .i64 0, .int .i64 0, .int .i64 0, .int .i64 0, .int .i64 0, .int .i64 0, .int .i64 0, .int .i64 0, .int .i64 0, .int .i64 0, .int .i64 0, .int .i64 0, .int .i64 0, .int .i64 0, .int .i64 0] 72) = w3 := ⟨_, rfl⟩
  rw [hw3] at S3 ⊢
  obtain ⟨y, hy⟩ : ∃ y, w.heap.size + 1 = y := ⟨_, rfl⟩
  obtain ⟨x, hx⟩ : ∃ x, w.heap.size = x := ⟨_, rfl⟩
  rw [hy] at S3 ⊢
  rw [hx] at S3 ⊢
  obtain ⟨z, hz⟩ : ∃ z, y + 1 = z := ⟨_, rfl⟩
  rw [hz] at S3 ⊢
  have XYZ : x < y ∧ y < z ∧ w.heap.size = x := by omega
  clear hw3 hy hz hx
  rw [XYZ.2.2] at HN HU
  have NW := Lib.hid (fun wr (bel : Below z w3 wr) => HN.out wr (S3.out.2.2.2.1.trans (bel.mono (by omega))))
  have UW := Lib.hid (fun wr (bel : Below z w3 wr) => HU.out wr (S3.out.2.2.2.1.trans (bel.mono (by omega))))
  clear HN HU NT
  go_loopw [16] (fun i wr => ∃ j : Nat, j ≤ 32 ∧ i = .int .i64 j ∧ wr.heap.size = z + 1 ∧ Hid (Below z w3 wr) ∧ Hid (ArrAt wr z (fun t => if t < j then -1 else 0))) (fun i _ => 32 - (intOf i).toNat)
  case atStart => exact ⟨0, Nat.zero_le _, rfl, S3.out.2.2.2.2, Below.refl _ _, S3.out.2.2.1.congr (fun t _ => by simp)⟩
  case round => as_aux_lemma =>
    obtain ⟨j, hj, rfl, hsz, bel, ar⟩ := hrel
    by_cases hj32 : j < 32
    · obtain ⟨q1, q2⟩ := ar.out.get hj32
      rw [if_neg (Nat.lt_irrefl j)] at q1
      go_wp2
      go_roundw
      case rel =>
        have g : wr.grownBy (wr.setCell ⟨z, j, none⟩ (.int .i64 (-1))) (some z) := gb_set _ (gb_refl wr _)
        refine ⟨j + 1, by omega, by go_num, by simpa using hsz, bel.out.grown g (by omega) (fun k hk => by cases hk; exact Nat.le_refl _), (ar.out.set j hj32 (-1)).congr (fun t _ => ?_)⟩
        unfold upd
        by_cases e : t = j
        · subst e; simp
        · rw [if_neg e]
          show (if t < j then (-1 : Int) else 0) = _
          by_cases e2 : t < j
          · rw [if_pos e2, if_pos (by omega)]
          · rw [if_neg e2, if_neg (by omega)]
      case measure => simp [intOf]; omega
    · have F0 := Lib.hid (ar.out.congr (G := fun _ => -1) (fun t ht => by rw [if_pos (by omega)]))
      obtain ⟨q1, q2⟩ := F0.out.get (t := to) (by omega)
      have g : wr.grownBy (wr.setCell ⟨z, to, none⟩ (.int .i64 0)) (some z) := gb_set _ (gb_refl wr _)
      have F1 := Lib.hid (F0.out.set to (by omega) 0)
      have B1 := Lib.hid (bel.out.grown g (by omega) (fun k hk => by cases hk; exact Nat.le_refl _))
      have hnew : ((wr.setCell ⟨z, to, none⟩ (.int .i64 0)).alloc (.cells #[.int .i64 0, .int .i64 0, .int .i64 0, .int .i64 0, .int .i64 0, .int .i64 0, .int .i64 0, .int .i64 0, .int .i64 0, .int .i64 0, .int .i64 0, .int .i64 0, .int .i64 0, .int .i64 0, .int .i64 0, .int .i64 0, .int .i64 0, .int .i64 0, .int .i64 0, .int .i64 0, .int .i64 0, .int .i64 0, .int .i64 0, .int .i64 0, .int .i64 0, .int .i64 0, .int .i64 0, .int .i64 0, .int .i64 0, .int .i64 0, .int .i64 0, .int .i64 0] 71)).heap[z + 1]? = some (.cells #[.int .i64 0, .int .i64 0, .int .i64 0, .int .i64 0, .int .i64 0, .int .i64 0, .int .i64 0, .int .i64 0, .int .i64 0, .int .i64 0, .int .i64 0, .int .i64 0, .int .i64 0, .int .i64 0, .int .i64 0, .int .i64 0, .int .i64 0, .int .i64 0, .int .i64 0, .int .i64 0, .int .i64 0, .int .i64 0, .int .i64 0, .int .i64 0, .int .i64 0, .int .i64 0, .int .i64 0, .int .i64 0, .int .i64 0, .int .i64 0, .int .i64 0, .int .i64 0] 71 (0, 0)) := by
        have := heap_alloc_last (wr.setCell ⟨z, to, none⟩ (.int .i64 0)) (.cells #[.int .i64 0, .int .i64 0, .int .i64 0, .int .i64 0, .int .i64 0, .int .i64 0, .int .i64 0, .int .i64 0, .int .i64 0, .int .i64 0, .int .i64 0, .int .i64 0, .int .i64 0, .int .i64 0, .int .i64 0, .int .i64 0, .int .i64 0, .int .i64 0, .int .i64 0, .int .i64 0, .int .i64 0, .int .i64 0, .int .i64 0, .int .i64 0, .int .i64 0, .int .i64 0, .int .i64 0, .int .i64 0, .int .i64 0, .int .i64 0, .int .i64 0, .int .i64 0] 71)
        rwa [show (wr.setCell ⟨z, to, none⟩ (.int .i64 0)).heap.size = z + 1 from by simpa using hsz] at this
      have hI2 : (Tryd.prog.info? 71).map (·.size) = some 32 := by kernel_rfl
      have hZQ : (#[.int .i64 0, .int .i64 0, .int .i64 0, .int .i64 0, .int .i64 0, .int .i64 0, .int .i64 0, .int .i64 0, .int .i64 0, .int .i64 0, .int .i64 0, .int .i64 0, .int .i64 0, .int .i64 0, .int .i64 0, .int .i64 0, .int .i64 0, .int .i64 0, .int .i64 0, .int .i64 0, .int .i64 0, .int .i64 0, .int .i64 0, .int .i64 0, .int .i64 0, .int .i64 0, .int .i64 0, .int .i64 0, .int .i64 0, .int .i64 0, .int .i64 0, .int .i64 0] : Array Value).size = (#[.int .i64 (to : Int), .int .i64 0, .int .i64 0, .int .i64 0, .int .i64 0, .int .i64 0, .int .i64 0, .int .i64 0, .int .i64 0, .int .i64 0, .int .i64 0, .int .i64 0, .int .i64 0, .int .i64 0, .int .i64 0, .int .i64 0, .int .i64 0, .int .i64 0, .int .i64 0, .int .i64 0, .int .i64 0, .int .i64 0, .int .i64 0, .int .i64 0, .int .i64 0, .int .i64 0, .int .i64 0, .int .i64 0, .int .i64 0, .int .i64 0, .int .i64 0, .int .i64 0] : Array Value).size := rfl
      have hone2 := one_queue (to : Int)
      have eW : Hid (((wr.setCell ⟨z, to, none⟩ (.int .i64 0)).alloc (.cells #[.int .i64 0, .int .i64 0, .int .i64 0, .int .i64 0, .int .i64 0, .int .i64 0, .int .i64 0, .int .i64 0, .int .i64 0, .int .i64 0, .int .i64 0, .int .i64 0, .int .i64 0, .int .i64 0, .int .i64 0, .int .i64 0, .int .i64 0, .int .i64 0, .int .i64 0, .int .i64 0, .int .i64 0, .int .i64 0, .int .i64 0, .int .i64 0, .int .i64 0, .int .i64 0, .int .i64 0, .int .i64 0, .int .i64 0, .int .i64 0, .int .i64 0, .int .i64 0] 71)).setRow (z + 1) #[.int .i64 (to : Int), .int .i64 0, .int .i64 0, .int .i64 0, .int .i64 0, .int .i64 0, .int .i64 0, .int .i64 0, .int .i64 0, .int .i64 0, .int .i64 0, .int .i64 0, .int .i64 0, .int .i64 0, .int .i64 0, .int .i64 0, .int .i64 0, .int .i64 0, .int .i64 0, .int .i64 0, .int .i64 0, .int .i64 0, .int .i64 0, .int .i64 0, .int .i64 0, .int .i64 0, .int .i64 0, .int .i64 0, .int .i64 0, .int .i64 0, .int .i64 0, .int .i64 0] = (wr.setCell ⟨z, to, none⟩ (.int .i64 0)).alloc (.cells #[.int .i64 (to : Int), .int .i64 0, .int .i64 0, .int .i64 0, .int .i64 0, .int .i64 0, .int .i64 0, .int .i64 0, .int .i64 0, .int .i64 0, .int .i64 0, .int .i64 0, .int .i64 0, .int .i64 0, .int .i64 0, .int .i64 0, .int .i64 0, .int .i64 0, .int .i64 0, .int .i64 0, .int .i64 0, .int .i64 0, .int .i64 0, .int .i64 0, .int .i64 0, .int .i64 0, .int .i64 0, .int .i64 0, .int .i64 0, .int .i64 0, .int .i64 0, .int .i64 0] 71)) := by
        have := World.setRow_alloc_new (wr.setCell ⟨z, to, none⟩ (.int .i64 0)) #[.int .i64 0, .int .i64 0, .int .i64 0, .int .i64 0, .int .i64 0, .int .i64 0, .int .i64 0, .int .i64 0, .int .i64 0, .int .i64 0, .int .i64 0, .int .i64 0, .int .i64 0, .int .i64 0, .int .i64 0, .int .i64 0, .int .i64 0, .int .i64 0, .int .i64 0, .int .i64 0, .int .i64 0, .int .i64 0, .int .i64 0, .int .i64 0, .int .i64 0, .int .i64 0, .int .i64 0, .int .i64 0, .int .i64 0, .int .i64 0, .int .i64 0, .int .i64 0] #[.int .i64 (to : Int), .int .i64 0, .int .i64 0, .int .i64 0, .int .i64 0, .int .i64 0, .int .i64 0, .int .i64 0, .int .i64 0, .int .i64 0, .int .i64 0, .int .i64 0, .int .i64 0, .int .i64 0, .int .i64 0, .int .i64 0, .int .i64 0, .int .i64 0, .int .i64 0, .int .i64 0, .int .i64 0, .int .i64 0, .int .i64 0, .int .i64 0, .int .i64 0, .int .i64 0, .int .i64 0, .int .i64 0, .int .i64 0, .int .i64 0, .int .i64 0, .int .i64 0] 71
        rwa [show (wr.setCell ⟨z, to, none⟩ (.int .i64 0)).heap.size = z + 1 from by simpa using hsz] at this
      have BQ := Lib.hid (built_queue (to : Int))
      clear g ar F0 bel
      go_wp2_with (first
        | (refine wpList_build_as rfl 71 #[(0, .tmp 24)] rfl #[.int .i64 (to : Int), .int .i64 0, .int .i64 0, .int .i64 0, .int .i64 0, .int .i64 0, .int .i64 0, .int .i64 0, .int .i64 0, .int .i64 0, .int .i64 0, .int .i64 0, .int .i64 0, .int .i64 0, .int .i64 0, .int .i64 0, .int .i64 0, .int .i64 0, .int .i64 0, .int .i64 0, .int .i64 0, .int .i64 0, .int .i64 0, .int .i64 0, .int .i64 0, .int .i64 0, .int .i64 0, .int .i64 0, .int .i64 0, .int .i64 0, .int .i64 0, .int .i64 0] BQ.out ?_)
        | (refine wpList_store_row rfl 71 (.tmp 9) (.tmp 25) rfl (z + 1) #[.int .i64 (to : Int), .int .i64 0, .int .i64 0, .int .i64 0, .int .i64 0, .int .i64 0, .int .i64 0, .int .i64 0, .int .i64 0, .int .i64 0, .int .i64 0, .int .i64 0, .int .i64 0, .int .i64 0, .int .i64 0, .int .i64 0, .int .i64 0, .int .i64 0, .int .i64 0, .int .i64 0, .int .i64 0, .int .i64 0, .int .i64 0, .int .i64 0, .int .i64 0, .int .i64 0, .int .i64 0, .int .i64 0, .int .i64 0, .int .i64 0, .int .i64 0, .int .i64 0] rfl rfl 71 #[.int .i64 0, .int .i64 0, .int .i64 0, .int .i64 0, .int .i64 0, .int .i64 0, .int .i64 0, .int .i64 0, .int .i64 0, .int .i64 0, .int .i64 0, .int .i64 0, .int .i64 0, .int .i64 0, .int .i64 0, .int .i64 0, .int .i64 0, .int .i64 0, .int .i64 0, .int .i64 0, .int .i64 0, .int .i64 0, .int .i64 0, .int .i64 0, .int .i64 0, .int .i64 0, .int .i64 0, .int .i64 0, .int .i64 0, .int .i64 0, .int .i64 0, .int .i64 0] hnew hI2 hZQ hone2 ?_))
      rw [eW.out]
      clear eW hnew hI2 BQ hZQ hone2
      have W2 : Hid (WB w3 ((wr.setCell ⟨z, to, none⟩ (.int .i64 0)).alloc (.cells #[.int .i64 (to : Int), .int .i64 0, .int .i64 0, .int .i64 0, .int .i64 0, .int .i64 0, .int .i64 0, .int .i64 0, .int .i64 0, .int .i64 0, .int .i64 0, .int .i64 0, .int .i64 0, .int .i64 0, .int .i64 0, .int .i64 0, .int .i64 0, .int .i64 0, .int .i64 0, .int .i64 0, .int .i64 0, .int .i64 0, .int .i64 0, .int .i64 0, .int .i64 0, .int .i64 0, .int .i64 0, .int .i64 0, .int .i64 0, .int .i64 0, .int .i64 0, .int .i64 0] 71)) z (upd (fun _ => -1) to 0) (fun t => if t = 0 then to else 0)) := by
        refine ⟨B1.out.trans ((below_box _ _).mono (by simp; omega)), F1.out.below (below_box _ _) F1.out.lt, ?_⟩
        have e := ArrAt.new (w := wr.setCell ⟨z, to, none⟩ (.int .i64 0)) (T := 71) (isArr_one (to : Int))
        have e2 : (wr.setCell ⟨z, to, none⟩ (.int .i64 0)).heap.size = z + 1 := by simpa using hsz
        rw [e2] at e
        exact e.congr (fun t _ => by split <;> rfl)
      have BS := Lib.hid (BI.start (G := nb ds us) (M := ds.length) (N := N) (to := to) (upd (fun _ => -1) to 0) (fun t => if t = 0 then to else 0) ht (upd_eq _ _ _) (fun v _ hv => upd_ne _ _ hv) rfl)
      clear B1 F1 q1 q2 hj32
      go_loopw [10, 11] (fun p q wr => ∃ (f c : Nat) (F : Nat → Int) (Q : Nat → Nat), f ≤ c ∧ c ≤ 32 ∧ p = .int .i64 f ∧ q = .int .i64 c ∧ Hid (WB w3 wr z F Q) ∧ Hid (BI (nb ds us) ds.length N to F Q c f 0) ∧ Hid (∀ t, t < 32 → F t ≤ c)) (fun p _ _ => 32 - (intOf p).toNat)
      case atStart =>
        refine ⟨0, 1, _, _, by omega, by omega, rfl, rfl, W2, BS, fun t _ => ?_⟩
        show (if t = to then (0 : Int) else -1) ≤ _
        split <;> omega
      case round => as_aux_lemma =>
        clear W2 BS
        obtain ⟨f, c', F, Q, hfc, hc32, rfl, rfl, wb, bi, hF⟩ := hrel
        by_cases hf : f < c'
        · obtain ⟨v, hv⟩ : ∃ v, Q f = v := ⟨_, rfl⟩
          have hvN : v < N := by rw [← hv]; exact (bi.out.qin f hf).1
          have HV := Lib.hid hv
          obtain ⟨q1, -⟩ := wb.out.qa.get (t := f) (by omega)
          rw [hv] at q1
          have nt := NtAt.below S3.out.1 wb.out.bel (by omega)
          obtain ⟨k1, k2, k3⟩ := nt
          clear hv
          go_wp2_with fail
          go_loopw [11, 37] (fun q i wr => ∃ (c j : Nat) (F : Nat → Int) (Q : Nat → Nat), f < c ∧ c ≤ 32 ∧ j ≤ M ∧ q = .int .i64 c ∧ i = .int .i64 j ∧ Hid (WB w3 wr z F Q) ∧ Hid (BI (nb ds us) ds.length N to F Q c f j) ∧ Hid (∀ t, t < 32 → F t ≤ c) ∧ Hid (Q f = v)) (fun _ i _ => M - (intOf i).toNat)
          case atStart => exact ⟨c', 0, F, Q, hf, hc32, Nat.zero_le _, rfl, rfl, wb, bi, hF, HV⟩
          case round => as_aux_lemma =>
            clear q1 k1 k2 k3 wb bi hF HV hf hc32 hfc
            obtain ⟨c', j, F, Q, hf, hc32, hjM, rfl, rfl, wb, bi, hF, HV⟩ := hrel
            by_cases hj : j < M
            · have hjd : j < ds.length := by rw [hdl.out]; exact hj
              have hju : j < us.length := by rw [hul.out]; exact hj
              obtain ⟨g, o, hbe, hg, hcd⟩ := (NW.out _ wb.out.bel).din.some (by omega)
              obtain ⟨g2, o2, hue, hg2, hcu⟩ := (UW.out _ wb.out.bel).some (by omega)
              subst hbe
              subst hue
              obtain ⟨c0, c1, c2, c3, c4⟩ := cells_dv hcd j hjd
              have u0 := cells_b hcu j hju
              obtain ⟨xd, hxd⟩ : ∃ x, ds[j] = x := ⟨_, rfl⟩
              obtain ⟨bu, hbu⟩ : ∃ x, us[j] = x := ⟨_, rfl⟩
              rw [hxd] at c0 c1 c2 c3 c4
              rw [hbu] at u0
              obtain ⟨na, hna⟩ : ∃ r, acr xd v = r := ⟨_, rfl⟩
              have AC := Lib.hid (fun w => across_is xd v na w hna)
              have G := Lib.hid (show nb ds us j v = if bu = true then na else -1 by
                unfold nb; rw [getD_of hjd, hxd, hna, List.getD_eq_getElem?_getD, List.getElem?_eq_getElem hju, hbu]; rfl)
              have SY := Lib.hid (HS.out j hjd v hvN)
              clear hxd hbu hna hcd hcu hjd hju
              obtain ⟨nm, ki, da, db, co⟩ := xd
              dsimp only at c0 c1 c2 c3 c4 AC
              unfold dvV at AC
              have wb2 := Lib.hid ((wb.out.alloc (.cells #[.string nm, .int .i64 ki, .int .i64 da, .int .i64 db, .int .i64 co] 54)).alloc (.cells #[.string nm, .int .i64 ki, .int .i64 da, .int .i64 db, .int .i64 co] 54))
              have bb : Below wr.heap.size wr ((wr.alloc (.cells #[.string nm, .int .i64 ki, .int .i64 da, .int .i64 db, .int .i64 co] 54)).alloc (.cells #[.string nm, .int .i64 ki, .int .i64 da, .int .i64 db, .int .i64 co] 54)) := (below_box _ _).trans ((below_box _ _).mono (by simp))
              rw [← bb.cell (p := ⟨g2, o2 + j, none⟩) hg2] at u0
              clear bb wb
              go_wp2_with fail
              refine (AC.out _).mono ?_; rintro e w' ⟨rfl, rfl⟩
              clear c0 c1 c2 c3 c4
              cases bu
              · have sk := Lib.hid (bi.out.skip (fun u _ e => by rw [HV.out, G.out] at e; simp at e))
                go_wp2
                go_roundw
                case rel => exact ⟨c', j + 1, F, Q, hf, hc32, by omega, rfl, by go_num, wb2, sk, hF, HV⟩
                case measure => simp [intOf]; omega
              · by_cases e1 : na = -1
                · subst e1
                  have sk := Lib.hid (bi.out.skip (fun u _ e => by rw [HV.out, G.out] at e; simp at e <;> omega))
                  go_wp2
                  go_roundw
                  case rel => exact ⟨c', j + 1, F, Q, hf, hc32, by omega, rfl, by go_num, wb2, sk, hF, HV⟩
                  case measure => simp [intOf]; omega
                · obtain ⟨u, hu, rfl⟩ : ∃ u : Nat, u < N ∧ na = u := by
                    rcases SY.out with e | ⟨u, h1, h2, _⟩
                    · rw [G.out, if_pos rfl] at e; exact absurd e e1
                    · rw [G.out, if_pos rfl] at h2; exact ⟨u, h1, h2⟩
                  clear e1 SY
                  have T1 : ((u : Int) == -1) = false := by rw [beq_eq_false_iff_ne]; omega
                  obtain ⟨f1, -⟩ := wb2.out.fa.get (t := u) (by omega)
                  obtain ⟨Fu, hFu⟩ : ∃ x, F u = x := ⟨_, rfl⟩
                  rw [hFu] at f1
                  have HFu := Lib.hid hFu
                  clear hFu
                  by_cases e2 : Fu = -1
                  · have e2 := e2
                    subst e2
                    have hvu : (v : Int) ≠ u := fun e => by
                      have h1 := (bi.out.qin f hf).2
                      rw [HV.out] at h1
                      have e' : v = u := by omega
                      rw [e', HFu.out] at h1; omega
                    obtain ⟨f2, -⟩ := wb2.out.fa.get (t := v) (by omega)
                    obtain ⟨Fv, hFv⟩ : ∃ x, F v = x := ⟨_, rfl⟩
                    have h0 : 0 ≤ Fv := by have := (bi.out.qin f hf).2; rw [HV.out, hFv] at this; exact this
                    have h1 : Fv ≤ 32 := by have := hF.out v (by omega); omega
                    have hc' : c' < 32 := by
                      have h1 := bi.out.cnt
                      have h2 := ct_lt (p := fun v => decide (0 ≤ F v)) (n := N) (v := u) hu (by show decide (0 ≤ F u) = false; rw [HFu.out]; rfl)
                      omega
                    rw [hFv] at f2
                    have fd := Lib.hid (bi.out.found HS.out hf (by rw [hdl.out]; exact hj) hu (by rw [HV.out, G.out]; rfl) HFu.out)
                    have fd2 : Hid (BI (nb ds us) ds.length N to (upd F u (Fv + 1)) (upd Q c' u) (c' + 1) f (j + 1)) := by rw [HV.out, hFv] at fd; exact fd
                    have w5 := Lib.hid (wb2.out.setF u (by omega) (Fv + 1))
                    obtain ⟨f3, f4⟩ := wb2.out.fa.get (t := u) (by omega)
                    obtain ⟨f5, f6⟩ := w5.out.qa.get (t := c') hc'
                    have w6 := Lib.hid (w5.out.setQ c' hc' u)
                    have hF2 : Hid (∀ t, t < 32 → upd F u (Fv + 1) t ≤ ((c' + 1 : Nat) : Int)) := fun t ht => by
                      unfold upd
                      split
                      · have := hF.out v (by omega); omega
                      · have := hF.out t ht; omega
                    have HV2 : Hid (upd Q c' u f = v) := by show _ = v; rw [upd_ne Q u (by omega)]; exact HV.out
                    clear hFv fd f3 hvu
                    go_wp2
                    go_roundw
                    case rel => exact ⟨c' + 1, j + 1, upd F u (Fv + 1), upd Q c' u, by omega, by omega, by omega, by go_num, by go_num, w6, fd2, hF2, HV2⟩
                    case measure => simp [intOf]; omega
                  · have T2 := bne_t e2
                    have sk := Lib.hid (bi.out.skip (fun x hx e => by
                      rw [HV.out, G.out, if_pos rfl] at e
                      have e' : x = u := by omega
                      have := bi.out.low x hx
                      rw [e', HFu.out] at this ⊢
                      omega))
                    clear e2
                    go_wp2
                    go_roundw
                    case rel => exact ⟨c', j + 1, F, Q, hf, hc32, by omega, rfl, by go_num, wb2, sk, hF, HV⟩
                    case measure => simp [intOf]; omega
            · obtain rfl : M = j := by omega
              have nx := Lib.hid (show BI (nb ds us) ds.length N to F Q c' (f + 1) 0 from BI.next (by have := bi.out; rwa [← hdl.out] at this) hf)
              go_wp2
              go_roundw
              case rel => exact ⟨f + 1, c', F, Q, hf, hc32, by go_num, rfl, wb, nx, hF⟩
              case measure => simp [intOf]; omega
        · obtain rfl : c' = f := by omega
          have DI := Lib.hid bi.out.dist
          obtain ⟨A, T, hA, hA2⟩ := wb.out.fa
          obtain ⟨R, T2, hR, hR2⟩ := S3.out.2.1.below wb.out.bel (by omega)
          have HAA := Lib.hid hA2
          have hone : A.all (·.oneCell') = true := by
            rw [Array.all_eq_true_iff_forall_mem]
            intro v hv
            obtain ⟨t, ht, rfl⟩ := Array.mem_iff_getElem.1 hv
            have := hA2.2 t (by rw [← hA2.1]; exact ht)
            rw [Array.getElem?_eq_getElem ht] at this
            injection this with this
            rw [this]; rfl
          have hsA : A.size = 32 := hA2.1
          have hsR : R.size = 32 := hR2.1
          have hI : (Tryd.prog.info? 72).map (·.size) = some A.size := by rw [hsA]; kernel_rfl
          go_wp2_with (first
            | (refine wpList_load_row rfl 72 _ rfl z rfl T A (0, 0) _ hA Tryd.underlying72 rfl hI ?_)
            | (refine wpList_store_row rfl 72 _ _ rfl y A rfl rfl T2 R hR hI (by rw [hsR, hsA]) hone ?_))
          refine bodyPost_ret (v := .agg A) (results_cell_row Tryd.results47 _ _ y T2 A (0, 0) _ rfl (setRow_heap wr y R A T2 (0, 0) hR) Tryd.underlying72 rfl hI) rfl ⟨A, F, rfl, HAA.out, DI.out, ?_⟩
          rw [XYZ.2.2]
          exact below_setRow (S3.out.2.2.2.1.trans (wb.out.bel.mono (by omega))) (by omega) A
end Go.Proofs.YtleggojgcaefdaaDoor.net
