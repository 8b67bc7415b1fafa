/- The walk of layer 6's All. Conditions: the table 'flags' holds what its text lays; at most 64 elements. -/
import Derived.Test.YtoeojhabhnoojaaDoorMkH
namespace Go.Proofs.YtoeojhabhnoojaaDoor.msk
open Go.RowKit lex aggs kit net deck

def encV (v : Value) : List Value := [v]
theorem encV_len (v : Value) : (encV v).length = 1 := rfl
/-- a slice of slices of ints of the call's own -/
def RowsI (w : World) (base : Nat) (v : Value) (xss : List (List Int)) : Prop :=
  ∃ vs : List Value, vs.length = xss.length ∧ AggsAt 22 1 encV w base v vs ∧ ∀ (i : Nat) (xs : List Int), xss[i]? = some xs → ∃ u : Value, vs[i]? = some u ∧ OwnI w base u xs
theorem RowsI.nil (w : World) (base : Nat) : RowsI w base (.slice none 0 0) [] := ⟨[], rfl, AggsAt.nil _ _ _ _ _, fun i xs h => by simp at h⟩
theorem RowsI.grown {w w' : World} {base : Nat} {v : Value} {xss : List (List Int)} {row : Option Nat} (h : RowsI w base v xss) (hg : w.grownBy w' row) (hr : ∀ k, row = some k → k < base) : RowsI w' base v xss := by
  obtain ⟨vs, h1, h2, h3⟩ := h
  refine ⟨vs, h1, AggsAt.grown h2 hg hr, fun i xs hi => ?_⟩
  obtain ⟨u, h4, h5⟩ := h3 i xs hi
  exact ⟨u, h4, AggsAt.grown h5 hg hr⟩
theorem RowsI.below {w w' : World} {base : Nat} {v : Value} {xss : List (List Int)} (h : RowsI w base v xss) (hb : Below w.heap.size w w') : RowsI w' base v xss :=
  h.grown (row := none) ⟨hb.os, hb.tape, hb.output, hb.size, fun k hk _ => hb.block k hk⟩ (fun k hk => by cases hk)
theorem RowsI.length {w : World} {base : Nat} {v : Value} {xss : List (List Int)} (h : RowsI w base v xss) : ∃ a c, v = .slice a xss.length c ∧ xss.length ≤ c ∧ c ≤ maxLen := by
  obtain ⟨vs, h1, h2, h3⟩ := h
  rcases AggsAt.shape h2 encV_len with ⟨rfl, rfl⟩ | ⟨g, cap, rfl, q1, q2, q3, q4, q5, _⟩
  · rw [← h1]; exact ⟨none, 0, rfl, Nat.le_refl _, Nat.zero_le _⟩
  · rw [← h1]; exact ⟨_, _, rfl, q3, q4⟩
/-- reading one of them -/
theorem RowsI.get {w : World} {base : Nat} {a : Option Addr} {N c : Nat} {xss : List (List Int)} (h : RowsI w base (.slice a N c) xss) (i : Nat) (hi : i < xss.length) :
    ∃ g b c2, a = some ⟨g, 0, none⟩ ∧ base ≤ g ∧ g < w.heap.size ∧ w.cell? ⟨g, i, none⟩ = some (.slice b xss[i].length c2) ∧ LIn w b xss[i].length c2 xss[i] ∧ (∀ p, b = some p → base ≤ p.block) := by
  obtain ⟨vs, h1, h2, h3⟩ := h
  obtain ⟨u, h4, h5⟩ := h3 i _ (List.getElem?_eq_getElem hi)
  obtain ⟨b, c2, rfl, h6, h7⟩ := h5.lin
  rcases AggsAt.shape h2 encV_len with ⟨e, rfl⟩ | ⟨g, cap, e, q1, q2, q3, q4, q5, _⟩
  · simp at h1; omega
  · injection e with e1 e2 e3
    refine ⟨g, b, c2, e1, q1, q2, ?_, h6, h7⟩
    have hv := (List.getElem?_eq_some_iff.1 h4)
    have := q5.get encV_len i hv.1 0 (by decide) vs[i] rfl
    rw [hv.2] at this
    simpa using this
def allL (xs : List Int) : List (List Int) := (List.range (2 ^ (unkL xs).length)).map (stL xs)
theorem allL_len (xs : List Int) : (allL xs).length = 2 ^ (unkL xs).length := by simp [allL]
theorem allL_get {xs : List Int} {i : Nat} (h : i < 2 ^ (unkL xs).length) : (allL xs)[i]? = some (stL xs i) := by simp [allL, h]
/-- what All leaves -/
def AllPost (w : World) (xs : List Int) (e : Ending) (w' : World) : Prop :=
  ∃ v, e = .returned (.tuple #[v, .int .i64 (countE xs)]) ∧ RowsI w' w.heap.size v (if countE xs = 0 then allL xs else []) ∧ Below w.heap.size w w'
theorem all_ret {v : Value} {x y : Int} (h : x = y) : Ending.returned (.tuple #[v, .int .i64 x]) = .returned (.tuple #[v, .int .i64 y]) := by rw [h]
theorem make_rows (M : Nat) (hM : M ≤ 1024) (W : World) : (Instr.makeSlice 37 (.int .i64 (M : Int)) (.int .i64 (M : Int))).run Tryd.prog W = .ok (.slice (some ⟨W.heap.size, 0, none⟩) M M) (W.alloc (.cells (madeCells #[.slice none 0 0] M) 22)) :=
  run_make_row' 37 22 (.slice none 0 0) 24 Tryd.underlying37 (by kernel_rfl) rfl .i64 .i64 M (by omega) (by omega) W
theorem made_flatV (N : Nat) : (madeCells #[.slice none 0 0] N).toList = flat encV (List.replicate N (.slice none 0 0)) ∧ (madeCells #[.slice none 0 0] N).size = N := by
  have e : ∀ n, flat encV (List.replicate n (.slice none 0 0)) = List.replicate n (.slice none 0 0) := fun n => by
    induction n with
    | zero => rfl
    | succ n ih => rw [List.replicate_succ, flat_cons, ih]; rfl
  unfold madeCells
  refine ⟨?_, by simp⟩
  rw [e]
  apply List.ext_getElem
  · simp
  · intro i h1 h2; simp [Nat.mod_one]
theorem rows_made (w : World) (N : Nat) (h : N ≤ maxLen) : AggsAt 22 1 encV (w.alloc (.cells (madeCells #[.slice none 0 0] N) 22)) w.heap.size (.slice (some ⟨w.heap.size, 0, none⟩) N N) (List.replicate N (.slice none 0 0)) := by
  obtain ⟨h1, h2⟩ := made_flatV N
  show _ ∧ _
  refine ⟨by rw [flat_length encV_len], .inr ⟨w.heap.size, N, _, by rw [List.length_replicate], Nat.le_refl _, heap_alloc_new w _, by rw [List.length_replicate]; exact Nat.le_refl _, h, by rw [h2, Nat.mul_one], ?_⟩⟩
  rw [h1, List.take_of_length_le (by rw [flat_length encV_len]; exact Nat.le_refl _)]
theorem rowsV_set {w : World} {base g N c : Nat} {vs : List Value} (h : AggsAt 22 1 encV w base (.slice (some ⟨g, 0, none⟩) N c) vs) (hN : vs.length = N) (j : Nat) (hj : j < N) (u : Value) :
    AggsAt 22 1 encV (w.setCell ⟨g, j, none⟩ u) base (.slice (some ⟨g, 0, none⟩) N c) (vs.set j u) ∧ w.grownBy (w.setCell ⟨g, j, none⟩ u) (some g) := by
  have := AggsAt.set hN h encV_len j (by omega) 0 (by decide) u u rfl
  rwa [Nat.mul_one, Nat.add_zero] at this
theorem pow_small {u : Nat} (h : u ≤ 8) : 2 ^ u ≤ 256 := by
  have := Nat.pow_le_pow_right (n := 2) (by decide) h
  exact this
set_option maxRecDepth 100000 in
set_option maxHeartbeats 4000000 in
theorem all_is (a : Option Addr) (N c : Nat) (xs : List Int) (w : World) (H : Flg w) (h : LIn w a N c xs) (h64 : N ≤ 64) :
    Calls Tryd.prog 29 #[.slice a N c] w (AllPost w xs) := by
  have HL := Lib.hid (fun wr (b : Below w.heap.size w wr) => h.below b)
  have hcap := h.cap
  obtain ⟨V, hV⟩ : ∃ v, countV xs = v := ⟨_, rfl⟩
  obtain ⟨E, hE⟩ : ∃ v, countE xs = v := ⟨_, rfl⟩
  have HV := Lib.hid hV
  have HE := Lib.hid hE
  have CN := Lib.hid (count_is a N c xs w H h h64)
  clear H h
  by_cases e0 : E = 0
  · subst e0
    have hall : xs.all mB = true := by
      by_cases h : xs.all mB = true
      · exact h
      · have := (count_no (Bool.eq_false_iff.2 h)).2; omega
    have h8 : (unkL xs).length ≤ 8 := by
      by_cases h : (unkL xs).length ≤ 8
      · exact h
      · have := (count_many hall (by omega)).2; omega
    obtain ⟨M, hM⟩ : ∃ M, 2 ^ (unkL xs).length = M := ⟨_, rfl⟩
    have hVM : V = (M : Int) := by rw [← hV, (count_yes hall h8).1, hM]
    have M256 : M ≤ 256 := by rw [← hM]; exact pow_small h8
    have HM := Lib.hid hM
    subst hVM
    have HV2 : Hid (countV xs = (M : Int)) := hV
    clear hall h8 hM hV hE HV
    go_enter Tryd.func29, Tryd.ntmps29
    go_wp2_with fail
    refine CN.out.mono ?_
    rintro e w1 ⟨rfl, b1⟩
    have B1 := Lib.hid b1
    clear b1
    rw [HV2.out, HE.out]
    go_wp2_with fail
    refine (unknown_is a N c xs _ (HL.out _ B1.out) h64).mono ?_
    rintro e w2 ⟨vu, rfl, hu, b2⟩
    obtain ⟨au, cu, rfl, lu, -⟩ := hu.lin
    obtain ⟨U, hU⟩ : ∃ u, (ints (unkL xs)).length = u := ⟨_, rfl⟩
    rw [hU] at lu ⊢
    have LU := Lib.hid lu
    have B2 := Lib.hid (B1.out.trans (b2.mono B1.out.size))
    clear hu b2 lu hU
    have hmk := make_rows M (by omega) w2
    have RM := Lib.hid (rows_made w2 M (by unfold maxLen; omega))
    have bx := below_box w2 (.cells (madeCells #[.slice none 0 0] M) 22)
    have B3 := Lib.hid (B2.out.trans (bx.mono B2.out.size))
    have LU3 := Lib.hid (LU.out.below bx)
    have GL := Lib.hid (show w2.heap.size < (w2.alloc (.cells (madeCells #[.slice none 0 0] M) 22)).heap.size by simp)
    have WL := Lib.hid B2.out.size
    clear bx
    go_wp2
    clear hmk
    generalize w2.alloc (.cells (madeCells #[.slice none 0 0] M) 22) = w3 at *
    obtain ⟨g, hg⟩ : ∃ g, w2.heap.size = g := ⟨_, rfl⟩
    rw [hg] at RM GL WL ⊢
    have LUB : Hid (∀ wr, w3.grownBy wr (some g) → LIn wr au U cu (ints (unkL xs))) := fun wr gb => LU3.out.grown gb (fun hpU p hp e => by
      have : p.block < w2.heap.size := by
        obtain ⟨b, o, h, h2, _⟩ := LU.out.rin.some (by rw [LU.out.len]; exact hpU)
        rw [h] at hp; cases hp; exact h2
      injection e with e; omega)
    clear hg LU3 LU
    go_loopw [23] (fun i wr => ∃ k : Nat, k ≤ M ∧ i = .int .i64 k ∧ Hid (∃ vs : List Value, vs.length = M ∧ AggsAt 22 1 encV wr g (.slice (some ⟨g, 0, none⟩) M M) vs ∧ ∀ i, i < k → ∃ u, vs[i]? = some u ∧ OwnI wr (g + 1) u (stL xs i)) ∧ Hid (Below w.heap.size w wr) ∧ Hid (w3.grownBy wr (some g))) (fun i _ => M - (intOf i).toNat)
    case atStart => exact ⟨0, Nat.zero_le _, rfl, ⟨_, by rw [List.length_replicate], RM.out, fun i hi => absurd hi (Nat.not_lt_zero i)⟩, B3.out, gb_refl _ _⟩
    case round =>
      obtain ⟨k, hk, rfl, rows, bel, gb⟩ := hrel
      by_cases hlt : k < M
      · go_wp2_with fail
        refine (numbered_is a au N c U cu xs k _ (HL.out _ bel.out) (LUB.out _ gb.out) h64 (by omega)).mono ?_
        rintro e w4 ⟨u, rfl, hu, b4⟩
        obtain ⟨vs, hvs, hrow, hel⟩ := rows.out
        have hrow4 := AggsAt.below hrow b4
        have hwr : g + 1 ≤ wr.heap.size := by have := gb.out.size; have := GL.out; omega
        have hu4 := AggsAt.mono hu hwr
        have st := rowsV_set hrow4 hvs k hlt u
        have NR : Hid (∃ vs : List Value, vs.length = M ∧ AggsAt 22 1 encV (w4.setCell ⟨g, k, none⟩ u) g (.slice (some ⟨g, 0, none⟩) M M) vs ∧ ∀ i, i < k + 1 → ∃ u2, vs[i]? = some u2 ∧ OwnI (w4.setCell ⟨g, k, none⟩ u) (g + 1) u2 (stL xs i)) := by
          refine ⟨vs.set k u, by rw [List.length_set]; exact hvs, st.1, fun i hi => ?_⟩
          by_cases e : i = k
          · subst e
            exact ⟨u, by rw [List.getElem?_set_self (by omega)], AggsAt.grown hu4 st.2 (fun j hj => by cases hj; omega)⟩
          · obtain ⟨u2, h1, h2⟩ := hel i (by omega)
            exact ⟨u2, by rw [List.getElem?_set_ne (fun e2 => e e2.symm)]; exact h1, AggsAt.grown (AggsAt.below h2 b4) st.2 (fun j hj => by cases hj; omega)⟩
        have NB := Lib.hid ((bel.out.trans (b4.mono bel.out.size)).grown st.2 (by have := bel.out.size; have := b4.size; omega) (fun q hq => by cases hq; exact WL.out))
        have NG : Hid (w3.grownBy (w4.setCell ⟨g, k, none⟩ u) (some g)) := (gb.out.andThen (gb_bl b4 (some g)) (fun _ hj => .inr hj)).andThen st.2 (fun _ hj => .inr hj)
        obtain ⟨vk, hvk, f4⟩ : ∃ vk, w4.cell? ⟨g, k, none⟩ = some vk ∧ w4.frozen? ⟨g, k, none⟩ = false := by
          rcases AggsAt.shape hrow4 encV_len with ⟨e, _⟩ | ⟨g', cap, e, q1, q2, q3, q4, q5, q6⟩
          · cases e
          · injection e with e1 e2 e3
            cases e1
            have := q5.get encV_len k (by omega) 0 (by decide) vs[k] rfl
            exact ⟨vs[k], by simpa using this, q6 k⟩
        obtain ⟨au2, cu2, rfl, -, -⟩ := hu.lin
        clear st hrow hrow4 hel rows hu hu4 b4 bel gb hwr
        go_wp2
        go_roundw
        case rel => exact ⟨k + 1, by omega, by go_num, NR, NB, NG⟩
        case measure => simp [intOf]; omega
      · obtain rfl : k = M := by omega
        go_wp2
        go_ret2
        refine ⟨_, all_ret HE.out.symm, ?_, bel.out⟩
        rw [if_pos HE.out]
        obtain ⟨vs, h1, h2, h3⟩ := rows.out
        refine ⟨vs, by rw [h1, allL_len, HM.out], AggsAt.mono h2 WL.out, fun i ys hi => ?_⟩
        have hik : i < k := by have := (List.getElem?_eq_some_iff.1 hi).1; rw [allL_len, HM.out] at this; exact this
        rw [allL_get (by rw [HM.out]; exact hik)] at hi
        cases hi
        obtain ⟨u, h4, h5⟩ := h3 i hik
        exact ⟨u, h4, AggsAt.mono h5 (by have := WL.out; omega)⟩
  · have T1 : (E != 0) = true := bne_iff_ne.2 e0
    have hE2 : Hid (E ≠ 0) := e0
    clear hV hE
    go_enter Tryd.func29, Tryd.ntmps29
    go_wp2_with fail
    refine CN.out.mono ?_
    rintro e w1 ⟨rfl, b1⟩
    have B1 := Lib.hid b1
    clear b1
    rw [HV.out, HE.out]
    go_wp2
    go_ret2
    exact ⟨_, all_ret HE.out.symm, by rw [if_neg (by rw [HE.out]; exact e0)]; exact RowsI.nil _ _, B1.out⟩
end Go.Proofs.YtoeojhabhnoojaaDoor.msk
