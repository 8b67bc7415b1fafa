/- Slices of ints made anew. No program but the tables of types. -/
import Derived.Test.YtoeojhabhnoojaaDoorMkC
namespace Go.Proofs.YtoeojhabhnoojaaDoor.msk
open Go.RowKit lex aggs kit net deck

theorem made_flat (N : Nat) : (madeCells #[.int .i64 0] N).toList = flat encI (List.replicate N 0) ∧ (madeCells #[.int .i64 0] N).size = N := by
  have e : ∀ n, flat encI (List.replicate n 0) = List.replicate n (.int .i64 0) := fun n => by
    induction n with
    | zero => rfl
    | succ n ih => rw [List.replicate_succ, flat_cons, ih, List.replicate_succ]; rfl
  unfold madeCells
  refine ⟨?_, by simp⟩
  rw [e]
  apply List.ext_getElem
  · simp
  · intro i h1 h2; simp [Nat.mod_one]
theorem OwnI.made (w : World) (N : Nat) (h : N ≤ maxLen) : OwnI (w.alloc (.cells (madeCells #[.int .i64 0] N) 3)) w.heap.size (.slice (Option.some ⟨w.heap.size, 0, none⟩) N N) (List.replicate N 0) := by
  obtain ⟨h1, h2⟩ := made_flat N
  show _ ∧ _
  refine ⟨by rw [flat_length encI_len], .inr ⟨w.heap.size, N, _, by rw [List.length_replicate], Nat.le_refl _, heap_alloc_new w _, by rw [List.length_replicate]; exact Nat.le_refl _, h, by rw [h2, Nat.mul_one], ?_⟩⟩
  rw [h1, List.take_of_length_le (by rw [flat_length encI_len]; exact Nat.le_refl _)]
theorem make_ints (N : Nat) (hN : N ≤ 64) (W : World) : (Instr.makeSlice 22 (.int .i64 (N : Int)) (.int .i64 (N : Int))).run Tryd.prog W = .ok (.slice (some ⟨W.heap.size, 0, none⟩) N N) (W.alloc (.cells (madeCells #[.int .i64 0] N) 3)) :=
  run_make_row' 22 3 (.int .i64 0) 8 Tryd.underlying22 (by kernel_rfl) rfl .i64 .i64 N (by omega) (by omega) W
/-- the first k of a zip, the rest zero -/
def prL (zs : List Int) (k : Nat) : List Int := (List.range zs.length).map fun i => if i < k then at0 zs i else 0
theorem prL_len (zs : List Int) (k : Nat) : (prL zs k).length = zs.length := by simp [prL]
theorem prL_at {zs : List Int} {k i : Nat} (hi : i < zs.length) : at0 (prL zs k) i = if i < k then at0 zs i else 0 := by
  rw [at0_get (by rw [prL_len]; exact hi)]; simp [prL]
theorem prL_zero {zs : List Int} {N : Nat} (h : zs.length = N) : prL zs 0 = List.replicate N 0 := by
  refine ext0 (by rw [prL_len, List.length_replicate, h]) (fun i hi => ?_)
  rw [prL_len] at hi
  rw [prL_at hi, if_neg (Nat.not_lt_zero i)]
  unfold at0
  rw [List.getD_eq_getElem?_getD, List.getElem?_replicate, if_pos (by omega)]; rfl
theorem prL_end {zs : List Int} {N : Nat} (h : zs.length = N) : prL zs N = zs := by
  refine ext0 (prL_len _ _) (fun i hi => ?_)
  rw [prL_len] at hi
  rw [prL_at hi, if_pos (by omega)]
theorem prL_step {zs : List Int} {k : Nat} (h : k < zs.length) {z : Int} (hz : at0 zs k = z) : (prL zs k).set k z = prL zs (k + 1) := by
  refine ext0 (by rw [List.length_set, prL_len, prL_len]) (fun i hi => ?_)
  rw [List.length_set, prL_len] at hi
  rw [at0_set _ (by rw [prL_len]; exact h), prL_at hi, prL_at hi]
  by_cases e : i = k
  · subst e; rw [if_pos rfl, if_pos (by omega), hz]
  · rw [if_neg e]
    by_cases hk : i < k
    · rw [if_pos hk, if_pos (by omega)]
    · rw [if_neg hk, if_neg (by omega)]
theorem below_drewN (w : World) (n : Nat) : Below w.heap.size w (w.drewN n) := ⟨rfl, rfl, rfl, Nat.le_refl _, fun _ _ => rfl⟩
end Go.Proofs.YtoeojhabhnoojaaDoor.msk
