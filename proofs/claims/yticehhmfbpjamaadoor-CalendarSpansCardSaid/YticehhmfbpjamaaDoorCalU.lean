/- The walks of layer 2 on lists of spans: Clone and SortFunc by the library's contracts; the closure; Union. -/
import Derived.Test.YticehhmfbpjamaaDoorCalP
import Derived.Test.YticehhmfbpjamaaDoorSortA
import Derived.Test.YticehhmfbpjamaaDoorShelfS
import Derived.Test.YticehhmfbpjamaaDoorShelf
import Derived.Deep.QuietTactic
import Derived.BigQuiet
import Derived.BigRegion
import Derived.RegionTactic
namespace Go.Proofs.YticehhmfbpjamaaDoor.cal
open Go.RowKit lex uni aggs Go.Sort

/-- a slice of spans that can be read: nil, or a row of cells -/
def SpIn (w : World) (a : Option Addr) (xs : List Sp) : Prop := (a = none ∧ xs = []) ∨ ∃ b off, a = some ⟨b, off, none⟩ ∧ b < w.heap.size ∧ CellsAt encSp 2 w b off xs
theorem SpIn.below {w w' : World} {a : Option Addr} {xs : List Sp} (h : SpIn w a xs) (hb : Below w.heap.size w w') : SpIn w' a xs := by
  rcases h with h | ⟨b, off, h1, h2, h3⟩
  · exact .inl h
  · exact .inr ⟨b, off, h1, Nat.lt_of_lt_of_le h2 hb.size, h3.below hb⟩
theorem SpIn.cells {w : World} {a : Option Addr} {xs : List Sp} (h : SpIn w a xs) (hp : xs ≠ []) : ∃ b off, a = some ⟨b, off, none⟩ ∧ b < w.heap.size ∧ ∀ j (hj : j < xs.length), w.cell? ⟨b, off + j * 2, none⟩ = some (.int .i64 xs[j].1) ∧ w.cell? ⟨b, off + j * 2 + 1, none⟩ = some (.int .i64 xs[j].2) := by
  rcases h with ⟨_, h⟩ | ⟨b, off, h1, h2, h3⟩
  · exact absurd h hp
  · refine ⟨b, off, h1, h2, fun j hj => ⟨?_, ?_⟩⟩
    · exact h3.get encSp_len j hj 0 (by decide) _ rfl
    · rw [Nat.add_assoc]; exact h3.get encSp_len j hj 1 (by decide) _ rfl
theorem AggsAt.spIn {T : Nat} {w : World} {base : Nat} {v : Value} {xs : List Sp} (h : AggsAt T 2 encSp w base v xs) : ∃ a cap, v = .slice a xs.length cap ∧ SpIn w a xs := by
  rcases h.shape encSp_len with ⟨rfl, rfl⟩ | ⟨g, cap, rfl, _, hg, _, _, hc, _⟩
  · exact ⟨none, 0, rfl, .inl ⟨rfl, rfl⟩⟩
  · exact ⟨_, _, rfl, .inr ⟨g, 0, rfl, hg, hc⟩⟩

theorem infoSp : (Tryd.prog.info? 43).map (fun i => (i.zero, i.size, i.bytes)) = some (some (.agg #[.int .i64 0, .int .i64 0]), 2, 16) := by kernel_rfl
theorem sizeSp (w : World) : (Go.sizeOf 43).run Tryd.prog w = .ok 2 w := by kernel_rfl
theorem aggSp (w : World) : (isAgg 43).run Tryd.prog w = .ok true w := by kernel_rfl

/-- what Clone leaves -/
def ClonePost (xs : List Sp) (w : World) (e : Ending) (w' : World) : Prop := ∃ v, e = .returned v ∧ AggsAt 43 2 encSp w' w.heap.size v xs ∧ Below w.heap.size w w'
theorem clone_any (a : Option Addr) (cap : Nat) (xs : List Sp) (w : World) (h : SpIn w a xs) (hl : xs.length ≤ 4294967296) :
    Calls Tryd.prog 46 #[.slice a xs.length cap] w (ClonePost xs w) := by
  rcases h with ⟨rfl, rfl⟩ | ⟨b, off, rfl, hb, hc⟩
  · exact (AnyE.slices_Clone_nil Tryd.cloneSpan 0 cap w).mono fun e w' ⟨he, hw⟩ => ⟨_, he, AggsAt.nil _ _ _ _ _, by rw [hw]; exact Below.refl _ _⟩
  · obtain ⟨i0, hi, hz0, hz1, hz2⟩ := info_parts infoSp
    have := AnyE.slices_Clone Tryd.cloneSpan i0 _ 2 16 hi hz0 hz1 hz2 rfl (by decide) sizeSp b off xs.length cap (flat encSp xs) w (flat_length encSp_len xs) (by unfold maxLen; omega) (by omega) hc (flat_oneCell encSp_one xs)
    exact this.mono fun e w' ⟨v', he, ho, _, hb⟩ => ⟨v', he, ho, hb⟩

/-! ### the sort -/
set_option maxHeartbeats 1000000 in
theorem closure_any (x y : Sp) (W : World) : Calls Tryd.prog 48 #[.agg #[.int .i64 x.1, .int .i64 x.2], .agg #[.int .i64 y.1, .int .i64 y.2]] W fun e w' => e = .returned (.int .i64 (Lib.compareInt x.1 y.1)) ∧ ∃ q os', w' = grow (W.drewN q) os' := by
  have hcon := fun W' => Tryd.cmp_Compare_int x.1 y.1 W'
  generalize Lib.compareInt x.1 y.1 = r at hcon ⊢
  go_enter Tryd.func48, Tryd.ntmps48
  go_wp2_with (go_at_call 49; refine (hcon _).mono ?_; rintro e w' ⟨rfl, rfl⟩)
  go_ret
  exact ⟨rfl, 0, _, by rw [alloc_eq_grow, alloc_eq_grow, grow_grow]; rfl⟩
theorem cmpLays (blk off size : Nat) (w : World) : CmpLays Tryd.prog 48 #[] encSp 2 (fun x y => Lib.compareInt x.1 y.1) blk off size w :=
  fun _ _ _ _ x y => closure_any x y _
theorem lt_fst (x y : Sp) : ltOf (fun x y : Sp => Lib.compareInt x.1 y.1) x y = decide (x.1 < y.1) := by
  unfold ltOf Lib.compareInt
  by_cases h1 : x.1 < y.1
  · simp [h1]
  · by_cases h2 : y.1 < x.1 <;> simp [h1, h2]
theorem swo_fst : SWO (ltOf fun x y : Sp => Lib.compareInt x.1 y.1) where
  irrefl x := by rw [lt_fst]; simp
  trans x y z h1 h2 := by rw [lt_fst] at *; simp at *; omega
  ntrans x y z h1 h2 := by rw [lt_fst] at *; simp at *; omega
/-- what SortFunc leaves: the same slice, its spans in the order of their beginnings -/
def SortPost (v : Value) (xs : List Sp) (w : World) (e : Ending) (w' : World) : Prop :=
  e = .returned (.tuple #[]) ∧ ∃ ys a cap, v = .slice a ys.length cap ∧ ys.length = xs.length ∧ (∀ s, s ∈ xs ↔ s ∈ ys) ∧ ys.Pairwise (fun a b => a.1 ≤ b.1) ∧ SpIn w' a ys ∧ w.grownBy w' v.ownBlock
theorem sort_any (v : Value) (xs : List Sp) (base : Nat) (w : World) (h : AggsAt 43 2 encSp w base v xs) (hl : xs.length ≤ 4294967296) :
    Calls Tryd.prog 47 #[v, .func (.func 48) #[] #[]] w (SortPost v xs w) := by
  rcases h.shape encSp_len with ⟨rfl, rfl⟩ | ⟨g, cap, rfl, hbase, hg, hn, hm, hc, hf⟩
  · exact (AnyF.slices_SortFunc_none Tryd.sortSpan none 0 _ w).mono fun e w' ⟨he, hw⟩ => ⟨he, [], none, 0, rfl, rfl, by simp, List.Pairwise.nil, .inl ⟨rfl, rfl⟩, by rw [hw]; exact ⟨rfl, rfl, rfl, Nat.le_refl _, fun _ _ _ => rfl⟩⟩
  · have eg : ∀ args w, (callFunc 48 args).run Tryd.prog w = .ok (.enter 48 args) w := enters_of Tryd.func48 (by kernel_rfl) rfl
    have hH := holds_cells encSp_len hc hf
    have hs : xs.toArray.size = xs.length := by simp
    have hcon := AnyQ.slices_SortFunc Tryd.sortSpan 2 aggSp sizeSp encSp encSp_len encSp_one (fun x y => Lib.compareInt x.1 y.1) swo_fst 48 #[] g 0 cap xs.toArray w eg (cmpLays g 0 xs.toArray.size w) hH hg (by rw [hs]; omega)
    rw [hs] at hcon
    refine hcon.mono fun e w' ⟨he, d', n, os, hp, hsd, hw⟩ => ?_
    have hsz : d'.size = xs.length := by rw [hp.1]; exact hs
    have hln : d'.toList.length = xs.length := by rw [Array.length_toList, hsz]
    refine ⟨he, d'.toList, some ⟨g, 0, none⟩, cap, by rw [hln], hln, ?_, ?_, .inr ⟨g, 0, rfl, ?_, ?_⟩, ?_⟩
    · have hp2 := hp.2.2
      rw [Array.extract_eq_self_of_le (by rw [hsz]; exact Nat.le_refl _), Array.extract_eq_self_of_le (by rw [hs]; exact Nat.le_refl _)] at hp2
      intro s; exact (hp2.mem_iff (a := s)).symm
    · rw [List.pairwise_iff_getElem]
      intro i j hi hj hij
      have hi' : i < d'.size := by simpa using hi
      have hj' : j < d'.size := by simpa using hj
      have := hsd i j (Nat.zero_le _) hij (by rw [← hsz]; exact hj')
      rw [lt_fst, getElem!_pos d' i hi', getElem!_pos d' j hj'] at this
      have := of_decide_eq_false this
      simp only [Array.getElem_toList]
      omega
    · rw [hw]; simp [sortWorldK, putRowK]; omega
    · rw [hw]; exact cells_holds encSp_len (holds_sortedK hH hg (by rw [hsz, hs]))
    · rw [hw]; exact grownBy_sortedK d'
end Go.Proofs.YticehhmfbpjamaaDoor.cal
