/- What the reference's Way wants: arrays of counts and flags, lists of numbers, ways. No program but the tables of types. -/
import Derived.Test.YtoeojhabhnoojaaDoorNetQ
import Derived.Test.YtoeojhabhnoojaaDoorNetRj
import Derived.Test.YtoeojhabhnoojaaDoorNetN
import Derived.Laws.OwnMore
import Derived.Laws.Tables
import Derived.Laws.Rows
import Derived.Deep.WholeRow
import Derived.Laws.CopyOwn
import Derived.OwnWalk
import Derived.Maps.AppendAt
import Derived.RegionTactic
import Derived.BigRegion
import Derived.Deep.RegionHeld3
namespace Go.Proofs.YtoeojhabhnoojaaDoor.net
open Go.RowKit lex aggs kit deck

theorem getD_of {ds : List Dv} {i : Nat} (hi : i < ds.length) : ds.getD i default = ds[i] := by rw [List.getD_eq_getElem?_getD, List.getElem?_eq_getElem hi]; rfl
/-- what Other says -/
def othV (ns : List Nd) (ds : List Dv) (i v : Int) : Int := if chk ns ds = 0 ∧ 0 ≤ i ∧ i < ds.length then acr (ds.getD i.toNat default) v else -1

/-- an array of 32 ints -/
def IsArr (A : Array Value) (F : Nat → Int) : Prop := A.size = 32 ∧ ∀ t, t < 32 → A[t]? = some (.int .i64 (F t))
def ArrAt (w : World) (b : Nat) (F : Nat → Int) : Prop := ∃ A T, w.heap[b]? = some (.cells A T (0, 0)) ∧ IsArr A F
theorem ArrAt.get {w : World} {b : Nat} {F : Nat → Int} (h : ArrAt w b F) {t : Nat} (ht : t < 32) : w.cell? ⟨b, t, none⟩ = some (.int .i64 (F t)) ∧ w.frozen? ⟨b, t, none⟩ = false := by
  obtain ⟨A, T, h1, h2, h3⟩ := h
  have := h3 t ht
  exact ⟨by simp [World.cell?, h1, this], by simp [World.frozen?, h1]⟩
theorem ArrAt.lt {w : World} {b : Nat} {F : Nat → Int} (h : ArrAt w b F) : b < w.heap.size := by obtain ⟨A, T, h1, _⟩ := h; exact lt_of_block h1
theorem ArrAt.below {w w' : World} {b B : Nat} {F : Nat → Int} (h : ArrAt w b F) (hb : Below B w w') (hB : b < B) : ArrAt w' b F := by
  obtain ⟨A, T, h1, h2⟩ := h
  exact ⟨A, T, by rw [hb.block b hB]; exact h1, h2⟩
theorem ArrAt.other {w w' : World} {b : Nat} {F : Nat → Int} {row : Option Nat} (h : ArrAt w b F) (hg : w.grownBy w' row) (hne : some b ≠ row) : ArrAt w' b F := by
  have hl := h.lt
  obtain ⟨A, T, h1, h2⟩ := h
  exact ⟨A, T, by rw [hg.block b hl hne]; exact h1, h2⟩
theorem ArrAt.congr {w : World} {b : Nat} {F G : Nat → Int} (h : ArrAt w b F) (e : ∀ t, t < 32 → F t = G t) : ArrAt w b G := by
  obtain ⟨A, T, h1, h2, h3⟩ := h
  exact ⟨A, T, h1, h2, fun t ht => by rw [h3 t ht, e t ht]⟩
theorem ArrAt.set {w : World} {b : Nat} {F : Nat → Int} (h : ArrAt w b F) (t : Nat) (ht : t < 32) (x : Int) : ArrAt (w.setCell ⟨b, t, none⟩ (.int .i64 x)) b (upd F t x) := by
  obtain ⟨A, T, h1, h2, h3⟩ := h
  have hlt := lt_of_block h1
  have h' : w.heap[b] = .cells A T (0, 0) := by simpa [Array.getElem?_eq_getElem hlt] using h1
  refine ⟨A.setIfInBounds t (.int .i64 x), T, ?_, by simpa using h2, fun i hi => ?_⟩
  · show (w.heap.modify b _)[b]? = _
    rw [Array.getElem?_eq_getElem (by simpa using hlt), Array.getElem_modify_self, h']
    first | rfl | simp [Array.set!_eq_setIfInBounds]
  · rw [Array.getElem?_setIfInBounds]
    by_cases e : t = i
    · subst e; simp [h2, ht, upd_eq]
    · rw [if_neg e, h3 i hi, upd_ne F x (fun e' => e e'.symm)]
theorem ArrAt.new {w : World} {A : Array Value} {T : Nat} {F : Nat → Int} (h : IsArr A F) : ArrAt (w.alloc (.cells A T)) w.heap.size F := ⟨A, T, heap_alloc_new w _, h⟩
/-- over device i, where it may be used -/
def nb (ds : List Dv) (us : List Bool) (i v : Nat) : Int := if us.getD i false = true then acr (ds.getD i default) v else -1
theorem nb_sym {ds : List Dv} {us : List Bool} {N : Nat} (h : ∀ i, i < ds.length → itsB N (ds.getD i default) = true) : Sym (nb ds us) ds.length N := by
  intro i hi v hv
  unfold nb
  by_cases hu : us.getD i false = true
  · rw [if_pos hu]
    rcases acr_in (v := (v : Int)) (h i hi) with e | ⟨h1, h2, h3⟩
    · exact .inl e
    · refine .inr ⟨(acr (ds.getD i default) v).toNat, by omega, by omega, ?_⟩
      rw [if_pos hu, Int.toNat_of_nonneg h1]; exact h3
  · rw [if_neg hu]; exact .inl rfl

/-- the array of what is found and the one of what waits, in blocks z and z + 1 of the call's own -/
structure WB (w0 wr : World) (z : Nat) (F : Nat → Int) (q : Nat → Nat) : Prop where
  bel : Below z w0 wr
  fa : ArrAt wr z F
  qa : ArrAt wr (z + 1) (fun t => (q t : Int))
theorem WB.alloc {w0 wr : World} {z : Nat} {F : Nat → Int} {q : Nat → Nat} (h : WB w0 wr z F q) (o : Obj) : WB w0 (wr.alloc o) z F q :=
  ⟨h.bel.trans ((below_box wr o).mono (by have := h.fa.lt; omega)), h.fa.below (below_box wr o) h.fa.lt, h.qa.below (below_box wr o) h.qa.lt⟩
def encB (b : Bool) : List Value := [.bool b]
theorem encB_len (b : Bool) : (encB b).length = 1 := rfl
theorem cells_b {w : World} {b off : Nat} {us : List Bool} (h : CellsAt encB 1 w b off us) (j : Nat) (hj : j < us.length) : w.cell? ⟨b, off + j, none⟩ = some (.bool us[j]) := by
  have := h.get encB_len j hj 0 (by decide) _ rfl
  simpa using this

def encN (n : Nat) : List Value := [.int .i64 (n : Int)]
theorem encN_len (n : Nat) : (encN n).length = 1 := rfl
theorem encN_one (n : Nat) : ∀ v ∈ encN n, v.oneCell' = true := by intro v hv; simp [encN] at hv; subst hv; rfl
theorem infoInt : (Tryd.prog.info? 3).map (fun i => (i.zero, i.size, i.bytes)) = some (some (.int .i64 0), 1, 8) := by kernel_rfl
/-- a slice of numbers of the call's own -/
def NumsAt (w : World) (base : Nat) (v : Value) (xs : List Nat) : Prop := AggsAt 3 1 encN w base v xs
theorem NumsAt.drewN {w : World} {base : Nat} {v : Value} {xs : List Nat} (h : NumsAt w base v xs) (n : Nat) : NumsAt (w.drewN n) base v xs := h
theorem cell_new1 (w : World) (g : Nat) (hg : g = w.heap.size) (T : Nat) (n : Nat) : ∀ j u, (encN n)[j]? = some u → (w.alloc (.cells #[.int .i64 (n : Int)] T)).cell? ((⟨g, 0, none⟩ : Addr).add j) = some u := by
  subst hg; exact cell_one (enc := encN) (_k := 1) w _ T n rfl
theorem near_no {ds : List Dv} {us : List Bool} {D : Nat → Int} {v i : Nat} (h : nb ds us i v = -1) : nearB (nb ds us) D v i = false := by
  rw [Bool.eq_false_iff, Ne, nearB_iff, h]; omega
theorem near_is {ds : List Dv} {us : List Bool} {D : Nat → Int} {v i u : Nat} (h : nb ds us i v = u) (b : Bool) (hb : decide (D u = D v - 1) = b) : nearB (nb ds us) D v i = b := by
  unfold nearB
  rw [h, Int.toNat_natCast, decide_eq_true (by omega), Bool.true_and]; exact hb
/-- a row of marks, one for each device -/
def Flags (w : World) (b M : Nat) (f : Nat → Bool) : Prop := ∃ A T, w.heap[b]? = some (.cells A T (0, 0)) ∧ A.size = M ∧ ∀ t, t < M → A[t]? = some (.bool (f t))
theorem Flags.get {w : World} {b M : Nat} {f : Nat → Bool} (h : Flags w b M f) {t : Nat} (ht : t < M) : w.cell? ⟨b, t, none⟩ = some (.bool (f t)) ∧ w.frozen? ⟨b, t, none⟩ = false := by
  obtain ⟨A, T, h1, h2, h3⟩ := h
  have := h3 t ht
  exact ⟨by simp [World.cell?, h1, this], by simp [World.frozen?, h1]⟩
theorem Flags.lt {w : World} {b M : Nat} {f : Nat → Bool} (h : Flags w b M f) : b < w.heap.size := by obtain ⟨A, T, h1, _⟩ := h; exact lt_of_block h1
theorem Flags.other {w w' : World} {b M : Nat} {f : Nat → Bool} {row : Option Nat} (h : Flags w b M f) (hg : w.grownBy w' row) (hne : some b ≠ row) : Flags w' b M f := by
  have hl := h.lt
  obtain ⟨A, T, h1, h2⟩ := h
  exact ⟨A, T, by rw [hg.block b hl hne]; exact h1, h2⟩
theorem Flags.below {w w' : World} {b M : Nat} {f : Nat → Bool} (h : Flags w b M f) (hb : Below w.heap.size w w') : Flags w' b M f := by
  have hl := h.lt
  obtain ⟨A, T, h1, h2⟩ := h
  exact ⟨A, T, by rw [hb.block b hl]; exact h1, h2⟩
theorem Flags.set {w : World} {b M : Nat} {f : Nat → Bool} (h : Flags w b M f) (t : Nat) (ht : t < M) (x : Bool) : Flags (w.setCell ⟨b, t, none⟩ (.bool x)) b M (upd f t x) := by
  obtain ⟨A, T, h1, h2, h3⟩ := h
  refine ⟨A.set! t (.bool x), T, set_at _ h1, by simpa using h2, fun i hi => ?_⟩
  rw [Array.set!_eq_setIfInBounds, Array.getElem?_setIfInBounds]
  by_cases e : t = i
  · subst e; simp [h2, ht, upd_eq]
  · rw [if_neg e, h3 i hi, upd_ne f x (fun e' => e e'.symm)]
theorem made_size (M : Nat) : (madeCells #[.bool false] M).size = M ∧ ∀ t, t < M → (madeCells #[.bool false] M)[t]? = some (.bool false) := by
  unfold madeCells
  refine ⟨by simp, fun t ht => by simp [ht, Nat.mod_one]⟩
theorem Flags.new (w : World) (M T : Nat) : Flags (w.alloc (.cells (madeCells #[.bool false] M) T)) w.heap.size M (fun _ => false) :=
  ⟨_, _, heap_alloc_new w _, (made_size M).1, (made_size M).2⟩
def usL (M : Nat) (f : Nat → Bool) : List Bool := (List.range M).map f
theorem usL_len (M : Nat) (f : Nat → Bool) : (usL M f).length = M := by simp [usL]
theorem usL_get {M : Nat} {f : Nat → Bool} {i : Nat} (h : i < M) : (usL M f).getD i false = f i := by
  simp [usL, List.getD_eq_getElem?_getD, h]
theorem Flags.rin {w : World} {b M : Nat} {f : Nat → Bool} (h : Flags w b M f) : RIn encB 1 w (some ⟨b, 0, none⟩) (usL M f) := by
  refine .inr ⟨b, 0, rfl, h.lt, fun i u hu => ?_⟩
  have hi : i < M := by
    have := (List.getElem?_eq_some_iff.1 hu).1
    rw [flat_length encB_len, usL_len] at this; omega
  have e := flat_get encB_len (usL M f) i (by rw [usL_len]; exact hi) 0 (by decide)
  rw [Nat.mul_one, Nat.add_zero, hu] at e
  have e2 : u = .bool (f i) := by
    have := e
    simp [encB, usL] at this
    exact this
  rw [e2, Nat.zero_add]; exact (h.get hi).1
theorem make_flags (M : Nat) (hM : M ≤ 64) (W : World) : (Instr.makeSlice 61 (.int .i64 (M : Int)) (.int .i64 (M : Int))).run Tryd.prog W = .ok (.slice (some ⟨W.heap.size, 0, none⟩) M M) (W.alloc (.cells (madeCells #[.bool false] M) 4)) := by
  exact run_make_row' 61 4 (.bool false) 1 Tryd.underlying61 (by kernel_rfl) rfl .i64 .i64 M (by omega) (by omega) W

/-- what Way says -/
def WayIs (ns : List Nd) (ds : List Dv) (us : List Bool) (f t : Int) (xs : List Nat) (ok : Bool) (er : Int) : Prop :=
  if chk ns ds = 0 then if us.length = ds.length then if (0 ≤ f ∧ f < ns.length) ∧ (0 ≤ t ∧ t < ns.length) then
    er = 0 ∧ ∃ D, IsDist (nb ds us) ds.length ns.length t.toNat D ∧ ((D f.toNat = -1 ∧ ok = false ∧ xs = []) ∨ ∃ n : Nat, D f.toNat = n ∧ ok = true ∧ xs = wayL (nb ds us) ds.length D n f.toNat)
  else er = 7 ∧ ok = false ∧ xs = [] else er = 9 ∧ ok = false ∧ xs = [] else er = chk ns ds ∧ ok = false ∧ xs = []
def WayPost (ns : List Nd) (ds : List Dv) (us : List Bool) (f t : Int) (w : World) (e : Ending) (w' : World) : Prop :=
  ∃ v xs ok er, e = .returned (.tuple #[v, .bool ok, .int .i64 er]) ∧ NumsAt w' w.heap.size v xs ∧ Below w.heap.size w w' ∧ WayIs ns ds us f t xs ok er
theorem nums_nil (w : World) (b : Nat) : NumsAt w b (.slice none 0 0) [] := AggsAt.nil _ _ _ _ _

/-- a row of counts -/
def Cnts (w : World) (b M : Nat) (c : Nat → Int) : Prop := ∃ A T, w.heap[b]? = some (.cells A T (0, 0)) ∧ A.size = M ∧ ∀ t, t < M → A[t]? = some (.int .i64 (c t))
theorem Cnts.get {w : World} {b M : Nat} {f : Nat → Int} (h : Cnts w b M f) {t : Nat} (ht : t < M) : w.cell? ⟨b, t, none⟩ = some (.int .i64 (f t)) ∧ w.frozen? ⟨b, t, none⟩ = false := by
  obtain ⟨A, T, h1, h2, h3⟩ := h
  have := h3 t ht
  exact ⟨by simp [World.cell?, h1, this], by simp [World.frozen?, h1]⟩
theorem Cnts.lt {w : World} {b M : Nat} {f : Nat → Int} (h : Cnts w b M f) : b < w.heap.size := by obtain ⟨A, T, h1, _⟩ := h; exact lt_of_block h1
theorem Cnts.below {w w' : World} {b M : Nat} {f : Nat → Int} (h : Cnts w b M f) (hb : Below w.heap.size w w') : Cnts w' b M f := by
  have hl := h.lt
  obtain ⟨A, T, h1, h2⟩ := h
  exact ⟨A, T, by rw [hb.block b hl]; exact h1, h2⟩
theorem Cnts.congr {w : World} {b M : Nat} {f g : Nat → Int} (h : Cnts w b M f) (e : ∀ t, t < M → f t = g t) : Cnts w b M g := by
  obtain ⟨A, T, h1, h2, h3⟩ := h
  exact ⟨A, T, h1, h2, fun t ht => by rw [h3 t ht, e t ht]⟩
theorem Cnts.set {w : World} {b M : Nat} {f : Nat → Int} (h : Cnts w b M f) (t : Nat) (ht : t < M) (x : Int) : Cnts (w.setCell ⟨b, t, none⟩ (.int .i64 x)) b M (upd f t x) := by
  obtain ⟨A, T, h1, h2, h3⟩ := h
  refine ⟨A.set! t (.int .i64 x), T, set_at _ h1, by simpa using h2, fun i hi => ?_⟩
  rw [Array.set!_eq_setIfInBounds, Array.getElem?_setIfInBounds]
  by_cases e : t = i
  · subst e; simp [h2, ht, upd_eq]
  · rw [if_neg e, h3 i hi, upd_ne f x (fun e' => e e'.symm)]
theorem Cnts.new0 (w : World) (M T : Nat) (h : (madeCells #[.int .i64 0] M).size = M ∧ ∀ t, t < M → (madeCells #[.int .i64 0] M)[t]? = some (.int .i64 0)) : Cnts (w.alloc (.cells (madeCells #[.int .i64 0] M) T)) w.heap.size M (fun _ => 0) :=
  ⟨_, _, heap_alloc_new w _, h.1, h.2⟩
theorem made_ints (M : Nat) : (madeCells #[.int .i64 0] M).size = M ∧ ∀ t, t < M → (madeCells #[.int .i64 0] M)[t]? = some (.int .i64 0) := by
  unfold madeCells
  refine ⟨by simp, fun t ht => by simp [ht, Nat.mod_one]⟩
theorem make_ints (M : Nat) (hM : M ≤ 64) (W : World) : (Instr.makeSlice 22 (.int .i64 (M : Int)) (.int .i64 (M : Int))).run Tryd.prog W = .ok (.slice (some ⟨W.heap.size, 0, none⟩) M M) (W.alloc (.cells (madeCells #[.int .i64 0] M) 3)) := by
  exact run_make_row' 22 3 (.int .i64 0) 8 Tryd.underlying22 (by kernel_rfl) rfl .i64 .i64 M (by omega) (by omega) W
/-- the numbers of a row -/
def RowN (w : World) (b : Nat) (xs : List Nat) : Prop := b < w.heap.size ∧ ∀ j (hj : j < xs.length), w.cell? ⟨b, j, none⟩ = some (.int .i64 (xs[j] : Int))
theorem RowN.below {w w' : World} {b : Nat} {xs : List Nat} (h : RowN w b xs) (hb : Below w.heap.size w w') : RowN w' b xs :=
  ⟨Nat.lt_of_lt_of_le h.1 hb.size, fun j hj => by rw [hb.cell (p := ⟨b, j, none⟩) h.1]; exact h.2 j hj⟩
theorem RowN.other {w w' : World} {b : Nat} {xs : List Nat} {row : Option Nat} (h : RowN w b xs) (hg : w.grownBy w' row) (hne : some b ≠ row) : RowN w' b xs :=
  ⟨Nat.lt_of_lt_of_le h.1 hg.size, fun j hj => hg.cell (h.2 j hj) hne⟩
theorem nums_row {w : World} {base : Nat} {v : Value} {xs : List Nat} (h : NumsAt w base v xs) : ∃ rb av cv, v = .slice av xs.length cv ∧ (0 < xs.length → av = some ⟨rb, 0, none⟩ ∧ RowN w rb xs ∧ base ≤ rb) := by
  rcases AggsAt.shape h encN_len with ⟨rfl, rfl⟩ | ⟨g, cap, rfl, q1, q2, q3, q4, q5, _⟩
  · exact ⟨0, none, 0, rfl, fun h => by cases h⟩
  · refine ⟨g, _, _, rfl, fun _ => ⟨rfl, ⟨q2, fun j hj => ?_⟩, q1⟩⟩
    have := q5.get encN_len j hj 0 (by decide) _ rfl
    simpa using this

set_option maxRecDepth 100000 in
set_option maxHeartbeats 2000000 in
theorem rother_is (a b : Option Addr) (N c M d : Nat) (ns : List Nd) (ds : List Dv) (i v r : Int) (w : World) (h : NetIn w a b N c M d ns ds) (i0 : -9223372036854775808 ≤ i) (i1 : i ≤ 9223372036854775807) (hr : othV ns ds i v = r) :
    Calls Tryd.prog 53 #[.agg #[.slice a N c, .slice b M d], .int .i64 i, .int .i64 v] w fun e w' => e = .returned (.int .i64 r) ∧ Below w.heap.size w w' := by
  have bx := below_box w (.cells #[.slice a N c, .slice b M d] 26)
  have NT := Lib.hid (NtAt.new w (.slice a N c) (.slice b M d) 26)
  have hb := Lib.hid (h.below bx)
  have n1 := h.dcap
  have n2 := h.dmax
  unfold maxLen at n2
  obtain ⟨E, hE⟩ : ∃ E, chk ns ds = E := ⟨_, rfl⟩
  have CK := Lib.hid (rcheck_is a b N c M d ns ds E _ hb.out hE)
  unfold othV at hr
  rw [hE, h.dlen] at hr
  have BX := Lib.hid bx
  have HR := Lib.hid hr
  clear bx hE hr h
  by_cases e0 : E = 0
  · subst e0
    by_cases h1 : 0 ≤ i
    · by_cases h2 : i < M
      · obtain ⟨k, rfl⟩ : ∃ k : Nat, i = k := ⟨i.toNat, by omega⟩
        have hkM : k < M := by omega
        have hkd : k < ds.length := by rw [hb.out.dlen]; exact hkM
        obtain ⟨g, o, rfl, hg, hc⟩ := hb.out.din.some (by omega)
        have hr2 : acr (ds.getD k default) v = r := by rw [← HR.out, if_pos ⟨rfl, h1, h2⟩]; rfl
        rw [getD_of hkd] at hr2
        have hc0 := cells_dv hc k hkd
        obtain ⟨x, hx⟩ : ∃ x, ds[k] = x := ⟨_, rfl⟩
        rw [hx] at hr2 hc0
        clear hx hc HR hkd
        obtain ⟨nm, ki, da, db, co⟩ := x
        unfold acr at hr2
        dsimp only at hr2 hc0
        have HR2 := Lib.hid hr2
        have J1 := Lib.hid (fun h W => rjoins_is ki true (decide_eq_true h) W)
        have J0 := Lib.hid (fun h W => rjoins_is ki false (decide_eq_false h) W)
        clear hr2
        by_cases hk : 1 ≤ ki ∧ ki ≤ 3
        · by_cases e1 : v = da
          · have e : r = db := by rw [← HR2.out, if_pos hk, if_pos e1]
            subst e
            subst e1
            go_enter Tryd.func53, Tryd.ntmps53
            go_wp2_with fail
            refine CK.out.mono ?_; rintro e w2 ⟨rfl, b2⟩
            have B2 := Lib.hid b2
            obtain ⟨k1, k2, k3⟩ := NT.out.below b2 NT.out.2.2
            obtain ⟨c0, c1, c2, c3, c4⟩ := hc0
            rw [← b2.cell (p := ⟨g, o + k * 5 + 1, none⟩) hg] at c1
            rw [← b2.cell (p := ⟨g, o + k * 5 + 2, none⟩) hg] at c2
            rw [← b2.cell (p := ⟨g, o + k * 5 + 3, none⟩) hg] at c3
            have HK := Lib.hid hk
            clear b2 c0 c4 hk
            go_wp2_with fail
            all_goals (try (exfalso; omega))
            refine (J1.out HK.out _).mono ?_; rintro e w' ⟨rfl, rfl⟩
            go_wp2
            go_ret
            exact ⟨rfl, BX.out.trans (B2.out.mono BX.out.size)⟩
          · by_cases e2 : v = db
            · have e : r = da := by rw [← HR2.out, if_pos hk, if_neg e1, if_pos e2]
              subst e
              subst e2
              have T1 : (r == v) = false := beq_eq_false_iff_ne.2 (fun e => e1 e.symm)
              go_enter Tryd.func53, Tryd.ntmps53
              go_wp2_with fail
              refine CK.out.mono ?_; rintro e w2 ⟨rfl, b2⟩
              have B2 := Lib.hid b2
              obtain ⟨k1, k2, k3⟩ := NT.out.below b2 NT.out.2.2
              obtain ⟨c0, c1, c2, c3, c4⟩ := hc0
              rw [← b2.cell (p := ⟨g, o + k * 5 + 1, none⟩) hg] at c1
              rw [← b2.cell (p := ⟨g, o + k * 5 + 2, none⟩) hg] at c2
              rw [← b2.cell (p := ⟨g, o + k * 5 + 3, none⟩) hg] at c3
              have HK := Lib.hid hk
              clear b2 c0 c4 hk
              go_wp2_with fail
              all_goals (try (exfalso; omega))
              refine (J1.out HK.out _).mono ?_; rintro e w' ⟨rfl, rfl⟩
              go_wp2
              go_ret
              exact ⟨rfl, BX.out.trans (B2.out.mono BX.out.size)⟩
            · have e : r = -1 := by rw [← HR2.out, if_pos hk, if_neg e1, if_neg e2]
              subst e
              have T1 : (da == v) = false := beq_eq_false_iff_ne.2 (fun e => e1 e.symm)
              have T2 : (db == v) = false := beq_eq_false_iff_ne.2 (fun e => e2 e.symm)
              go_enter Tryd.func53, Tryd.ntmps53
              go_wp2_with fail
              refine CK.out.mono ?_; rintro e w2 ⟨rfl, b2⟩
              have B2 := Lib.hid b2
              obtain ⟨k1, k2, k3⟩ := NT.out.below b2 NT.out.2.2
              obtain ⟨c0, c1, c2, c3, c4⟩ := hc0
              rw [← b2.cell (p := ⟨g, o + k * 5 + 1, none⟩) hg] at c1
              rw [← b2.cell (p := ⟨g, o + k * 5 + 2, none⟩) hg] at c2
              rw [← b2.cell (p := ⟨g, o + k * 5 + 3, none⟩) hg] at c3
              have HK := Lib.hid hk
              clear b2 c0 c4 hk
              go_wp2_with fail
              all_goals (try (exfalso; omega))
              refine (J1.out HK.out _).mono ?_; rintro e w' ⟨rfl, rfl⟩
              go_wp2
              go_ret
              exact ⟨rfl, BX.out.trans (B2.out.mono BX.out.size)⟩
        · have e : r = -1 := by rw [← HR2.out, if_neg hk]
          subst e
          go_enter Tryd.func53, Tryd.ntmps53
          go_wp2_with fail
          refine CK.out.mono ?_; rintro e w2 ⟨rfl, b2⟩
          have B2 := Lib.hid b2
          obtain ⟨k1, k2, k3⟩ := NT.out.below b2 NT.out.2.2
          obtain ⟨c0, c1, c2, c3, c4⟩ := hc0
          rw [← b2.cell (p := ⟨g, o + k * 5 + 1, none⟩) hg] at c1
          rw [← b2.cell (p := ⟨g, o + k * 5 + 2, none⟩) hg] at c2
          rw [← b2.cell (p := ⟨g, o + k * 5 + 3, none⟩) hg] at c3
          have HK := Lib.hid hk
          clear b2 c0 c4 hk
          go_wp2_with fail
          all_goals (try (exfalso; omega))
          refine (J0.out HK.out _).mono ?_; rintro e w' ⟨rfl, rfl⟩
          go_wp2
          go_ret
          exact ⟨rfl, BX.out.trans (B2.out.mono BX.out.size)⟩
      · have e : r = -1 := by rw [← HR.out, if_neg (fun h => h2 h.2.2)]
        subst e
        go_enter Tryd.func53, Tryd.ntmps53
        go_wp2_with fail
        refine CK.out.mono ?_; rintro e w2 ⟨rfl, b2⟩
        have B2 := Lib.hid b2
        obtain ⟨k1, k2, k3⟩ := NT.out.below b2 NT.out.2.2
        clear b2
        go_wp2
        all_goals (first | (exfalso; omega) | (go_ret; exact ⟨rfl, BX.out.trans (B2.out.mono BX.out.size)⟩))
    · have e : r = -1 := by rw [← HR.out, if_neg (fun h => h1 h.2.1)]
      subst e
      go_enter Tryd.func53, Tryd.ntmps53
      go_wp2_with fail
      refine CK.out.mono ?_; rintro e w2 ⟨rfl, b2⟩
      have B2 := Lib.hid b2
      obtain ⟨k1, k2, k3⟩ := NT.out.below b2 NT.out.2.2
      clear b2
      go_wp2
      all_goals (first | (exfalso; omega) | (go_ret; exact ⟨rfl, BX.out.trans (B2.out.mono BX.out.size)⟩))
  · have e : r = -1 := by rw [← HR.out, if_neg (fun h => e0 h.1)]
    have T := bne_t e0
    subst e
    clear e0
    go_enter Tryd.func53, Tryd.ntmps53
    go_wp2_with fail
    refine CK.out.mono ?_; rintro e w2 ⟨rfl, b2⟩
    have B2 := Lib.hid b2
    obtain ⟨k1, k2, k3⟩ := NT.out.below b2 NT.out.2.2
    clear b2
    go_wp2
    all_goals (first | (exfalso; omega) | (go_ret; exact ⟨rfl, BX.out.trans (B2.out.mono BX.out.size)⟩))
end Go.Proofs.YtoeojhabhnoojaaDoor.net
