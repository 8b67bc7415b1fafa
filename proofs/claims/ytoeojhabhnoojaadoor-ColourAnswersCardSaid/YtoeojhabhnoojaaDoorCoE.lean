/- The walk of layer 7: Shades. Conditions: the tables 'classes' and 'flags' hold what their texts lay. -/
import Derived.Test.YtoeojhabhnoojaaDoorCoD
import Derived.Deep.RegionHeld3
namespace Go.Proofs.YtoeojhabhnoojaaDoor.col
open Go.RowKit Go.Maps lex aggs kit net deck msk

/-- a shade -/
structure Sh where
  ml : Bool
  tl : Bool
  me : Bool
  te : Bool
deriving DecidableEq
instance : Inhabited Sh := ⟨⟨false, false, false, false⟩⟩
def encS (x : Sh) : List Value := [.bool x.ml, .bool x.tl, .bool x.me, .bool x.te]
theorem encS_len (x : Sh) : (encS x).length = 4 := rfl
theorem encS_one (x : Sh) : ∀ v ∈ encS x, v.oneCell' = true := by intro v hv; simp [encS] at hv; rcases hv with rfl | rfl | rfl | rfl <;> rfl
def zSh : Value := .agg #[.bool false, .bool false, .bool false, .bool false]
/-- a slice of shades of the call's own -/
def OwnS (w : World) (base : Nat) (v : Value) (xs : List Sh) : Prop := AggsAt 55 4 encS w base v xs
theorem infoS : (Tryd.prog.info? 55).map (fun i => (i.zero, i.size, i.bytes)) = some (some zSh, 4, 4) := by kernel_rfl
theorem make_shades (N : Nat) (hN : N ≤ 64) (W : World) : (Instr.makeSlice 41 (.int .i64 (N : Int)) (.int .i64 (N : Int))).run Tryd.prog W = .ok (.slice (some ⟨W.heap.size, 0, none⟩) N N) (W.alloc (.cells (madeCells #[.bool false, .bool false, .bool false, .bool false] (N * 4)) 55)) := by
  obtain ⟨i, hi, hzz⟩ := Option.map_eq_some_iff.1 infoS
  simp only [Prod.mk.injEq] at hzz
  obtain ⟨hz, hs, hb⟩ := hzz
  have := run_make (P := Tryd.prog) W 41 55 i zSh Tryd.underlying41 hi hz .i64 .i64 N N (by omega) (Int.le_refl _) (by rw [hb]; omega) (by omega)
  rw [Int.toNat_natCast, hs] at this
  exact this
theorem made_flatS (N : Nat) : (madeCells #[.bool false, .bool false, .bool false, .bool false] (N * 4)).toList = flat encS (List.replicate N default) ∧ (madeCells #[.bool false, .bool false, .bool false, .bool false] (N * 4)).size = N * 4 := by
  have e : (madeCells #[.bool false, .bool false, .bool false, .bool false] (N * 4)).size = N * 4 := size_madeCells _ _
  refine ⟨List.ext_getElem ?_ (fun i h1 h2 => ?_), e⟩
  · rw [flat_length encS_len, List.length_replicate, Array.length_toList, e]
  · have h3 : ∀ v ∈ flat encS (List.replicate N default), v = .bool false := fun v hv => by
      obtain ⟨y, hy, hv⟩ := List.mem_flatMap.1 hv
      rw [List.eq_of_mem_replicate hy] at hv
      simpa [encS, default] using hv
    have h4 : ∀ v ∈ (madeCells #[.bool false, .bool false, .bool false, .bool false] (N * 4)).toList, v = .bool false := fun v hv => by
      obtain ⟨j, hj, rfl⟩ := List.mem_iff_getElem.1 hv
      simp only [madeCells, Array.getElem_toList]
      have : j % 4 = 0 ∨ j % 4 = 1 ∨ j % 4 = 2 ∨ j % 4 = 3 := by omega
      rcases this with h | h | h | h <;> simp [h]
    rw [h3 _ (List.getElem_mem h2), h4 _ (List.getElem_mem h1)]
theorem OwnS.made (w : World) (N : Nat) (h : N ≤ 64) : OwnS (w.alloc (.cells (madeCells #[.bool false, .bool false, .bool false, .bool false] (N * 4)) 55)) w.heap.size (.slice (some ⟨w.heap.size, 0, none⟩) N N) (List.replicate N default) := by
  obtain ⟨h1, h2⟩ := made_flatS N
  show _ ∧ _
  refine ⟨by rw [flat_length encS_len], .inr ⟨w.heap.size, N, _, by rw [List.length_replicate], Nat.le_refl _, heap_alloc_new w _, by rw [List.length_replicate]; exact Nat.le_refl _, by unfold maxLen; omega, h2, ?_⟩⟩
  rw [h1, List.take_of_length_le (by rw [flat_length encS_len]; exact Nat.le_refl _)]
theorem OwnS.set {w : World} {base g N c : Nat} {xs : List Sh} (h : OwnS w base (.slice (some ⟨g, 0, none⟩) N c) xs) (hN : xs.length = N) (j : Nat) (hj : j < N) (p q r s : Bool) :
    OwnS ((((w.setCell ⟨g, j * 4, none⟩ (.bool p)).setCell ⟨g, j * 4 + 1, none⟩ (.bool q)).setCell ⟨g, j * 4 + 2, none⟩ (.bool r)).setCell ⟨g, j * 4 + 3, none⟩ (.bool s)) base (.slice (some ⟨g, 0, none⟩) N c) (xs.set j ⟨p, q, r, s⟩) ∧
    w.grownBy ((((w.setCell ⟨g, j * 4, none⟩ (.bool p)).setCell ⟨g, j * 4 + 1, none⟩ (.bool q)).setCell ⟨g, j * 4 + 2, none⟩ (.bool r)).setCell ⟨g, j * 4 + 3, none⟩ (.bool s)) (some g) := by
  obtain ⟨x, hx⟩ : ∃ x, xs[j]'(by omega) = x := ⟨_, rfl⟩
  have h1 := AggsAt.set hN h encS_len j (by omega) 0 (by decide) ⟨p, x.tl, x.me, x.te⟩ (.bool p) (by rw [hx]; rfl)
  have h2 := AggsAt.set (by rw [List.length_set]; exact hN) h1.1 encS_len j (by rw [List.length_set]; omega) 1 (by decide) ⟨p, q, x.me, x.te⟩ (.bool q) (by rw [List.getElem_set_self]; rfl)
  have h3 := AggsAt.set (by rw [List.length_set, List.length_set]; exact hN) h2.1 encS_len j (by rw [List.length_set, List.length_set]; omega) 2 (by decide) ⟨p, q, r, x.te⟩ (.bool r) (by rw [List.getElem_set_self]; rfl)
  have h4 := AggsAt.set (by rw [List.length_set, List.length_set, List.length_set]; exact hN) h3.1 encS_len j (by rw [List.length_set, List.length_set, List.length_set]; omega) 3 (by decide) ⟨p, q, r, s⟩ (.bool s) (by rw [List.getElem_set_self]; rfl)
  rw [List.set_set, List.set_set, List.set_set] at h4
  exact ⟨h4.1, gb_tr (gb_tr (gb_tr h1.2 h2.2) h3.2) h4.2⟩
theorem OwnS.frozen {w : World} {base g N c : Nat} {xs : List Sh} (h : OwnS w base (.slice (some ⟨g, 0, none⟩) N c) xs) (_hN : xs.length = N) (hp : 0 < N) (i : Nat) : w.frozen? ⟨g, i, none⟩ = false := by
  rcases AggsAt.shape h encS_len with ⟨e, _⟩ | ⟨g', cap, e, q1, q2, q3, q4, q5, q6⟩
  · injection e with e1 e2 e3; omega
  · injection e with e1 e2 e3; cases e1; exact q6 i
theorem OwnS.cells {w : World} {base g N c : Nat} {xs : List Sh} (h : OwnS w base (.slice (some ⟨g, 0, none⟩) N c) xs) (hN : xs.length = N) (j : Nat) (hj : j < N) : ∃ x : Sh, w.cell? ⟨g, j * 4, none⟩ = some (.bool x.ml) ∧ w.cell? ⟨g, j * 4 + 1, none⟩ = some (.bool x.tl) ∧ w.cell? ⟨g, j * 4 + 2, none⟩ = some (.bool x.me) ∧ w.cell? ⟨g, j * 4 + 3, none⟩ = some (.bool x.te) := by
  rcases AggsAt.shape h encS_len with ⟨e, _⟩ | ⟨g', cap, e, q1, q2, q3, q4, q5, q6⟩
  · injection e with e1 e2 e3; omega
  · injection e with e1 e2 e3; cases e1
    have hjx : j < xs.length := by omega
    have k : ∀ i, i < 4 → ∀ u, (encS xs[j])[i]? = some u → w.cell? ⟨g, 0 + (j * 4 + i), none⟩ = some u := fun i hi u hu => q5.get encS_len j hjx i hi u hu
    refine ⟨xs[j], ?_, ?_, ?_, ?_⟩
    · simpa using k 0 (by decide) _ rfl
    · simpa using k 1 (by decide) _ rfl
    · simpa using k 2 (by decide) _ rfl
    · simpa using k 3 (by decide) _ rfl
theorem OwnS.lin {w : World} {base : Nat} {v : Value} {xs : List Sh} (h : OwnS w base v xs) : ∃ a c, v = .slice a xs.length c ∧ xs.length ≤ c ∧ c ≤ maxLen := by
  rcases AggsAt.shape h encS_len with ⟨rfl, rfl⟩ | ⟨g, cap, rfl, q1, q2, q3, q4, q5, _⟩
  · exact ⟨none, 0, rfl, Nat.le_refl _, Nat.zero_le _⟩
  · exact ⟨_, _, rfl, q3, q4⟩
/-- the shade of a node with these colours -/
def shd (x y : Int) : Sh := ⟨b1 x, b1 y, b2 x, b2 y⟩
/-- the shades of masks -/
def shL (ds : List Dv) (m : List Int) (N : Nat) : List Sh := (List.range N).map fun v => shd (colr ds (setL 2 m) v) (colr ds (setL 1 m) v)
theorem shL_len (ds : List Dv) (m : List Int) (N : Nat) : (shL ds m N).length = N := by simp [shL]
/-- the first k of them, the rest bare -/
def psL (xs : List Sh) (k : Nat) : List Sh := (List.range xs.length).map fun i => if i < k then xs.getD i default else default
theorem psL_len (xs : List Sh) (k : Nat) : (psL xs k).length = xs.length := by simp [psL]
theorem psL_zero (xs : List Sh) : psL xs 0 = List.replicate xs.length default := by
  refine List.ext_getElem (by simp [psL]) (fun i h1 h2 => ?_)
  simp [psL]
theorem psL_end (xs : List Sh) : psL xs xs.length = xs := by
  refine List.ext_getElem (psL_len _ _) (fun i h1 h2 => ?_)
  simp [psL, h2]
theorem psL_step {xs : List Sh} {k : Nat} (h : k < xs.length) {z : Sh} (hz : xs[k] = z) : (psL xs k).set k z = psL xs (k + 1) := by
  refine List.ext_getElem (by simp [psL]) (fun i h1 h2 => ?_)
  have hi : i < xs.length := by simpa [psL] using h1
  rw [List.getElem_set]
  by_cases e : k = i
  · subst e; rw [if_pos rfl]; simp [psL, h, hz]
  · rw [if_neg e]
    simp only [psL, List.getElem_map, List.getElem_range]
    by_cases h3 : i < k
    · rw [if_pos h3, if_pos (by omega)]
    · rw [if_neg h3, if_neg (by omega)]
/-- what a list of shades and an error leave -/
def ShPost (w : World) (xs : List Sh) (E : Int) (e : Ending) (w' : World) : Prop :=
  ∃ v, e = .returned (.tuple #[v, .int .i64 E]) ∧ OwnS w' w.heap.size v (if E = 0 then xs else []) ∧ Below w.heap.size w w'
section
variable {W X Y : World} {g : Nat} {v0 v1 : Value}
theorem box_bel (h : X.cell? ⟨g, 0, none⟩ = some v0 ∧ X.cell? ⟨g, 1, none⟩ = some v1 ∧ Below W.heap.size W X) (b : Below X.heap.size X Y) : Y.cell? ⟨g, 0, none⟩ = some v0 ∧ Y.cell? ⟨g, 1, none⟩ = some v1 ∧ Below W.heap.size W Y :=
  ⟨(b.cell (p := ⟨g, 0, none⟩) (World.block_lt_of_cell? X _ h.1)).trans h.1, (b.cell (p := ⟨g, 1, none⟩) (World.block_lt_of_cell? X _ h.2.1)).trans h.2.1, h.2.2.trans (b.mono h.2.2.size)⟩
theorem box_drw (h : X.cell? ⟨g, 0, none⟩ = some v0 ∧ X.cell? ⟨g, 1, none⟩ = some v1 ∧ Below W.heap.size W X) : X.drew.cell? ⟨g, 0, none⟩ = some v0 ∧ X.drew.cell? ⟨g, 1, none⟩ = some v1 ∧ Below W.heap.size W X.drew := ⟨h.1, h.2.1, below_drewN h.2.2 1⟩
end
theorem setL_len' (q : Int) (xs : List Int) (M : Nat) (h : xs.length = M) : (setL q xs).length = M := by rw [setL_len, h]
theorem bits_b1 {x : Int} (h : 0 ≤ x ∧ x ≤ 3) : (bits BinOp.and IntKind.i64 x 1 != 0) = b1 x := by rcases four h with rfl | rfl | rfl | rfl <;> decide +kernel
theorem bits_b2 {x : Int} (h : 0 ≤ x ∧ x ≤ 3) : (bits BinOp.and IntKind.i64 x 2 != 0) = b2 x := by rcases four h with rfl | rfl | rfl | rfl <;> decide +kernel
set_option maxRecDepth 100000 in
set_option maxHeartbeats 8000000 in
theorem Shades_is (a b l : Option Addr) (N c M d L k : Nat) (ns : List Nd) (ds : List Dv) (xs : List Int) (E : Int) (w : World) (H : STabs w) (h : NetIn w a b N c M d ns ds) (hx : LIn w l L k xs) (hE : chkM 1 ns ds xs = E) :
    Calls Tryd.prog 20 #[.agg #[.slice a N c, .slice b M d], .slice l L k] w (ShPost w (shL ds xs N) E) := by
  have bx := below_box w (.cells #[.slice a N c, .slice b M d] 26)
  have NT := NtAt.new w (.slice a N c) (.slice b M d) 26
  have BX := Lib.hid bx
  have S1 := Lib.hid (mCheck_is a b l N c M d L k ns ds xs E _ (H.cls.below bx) (H.flg.below bx) (h.below bx) (hx.below bx) hE)
  have hsz : (w.alloc (.cells #[.slice a N c, .slice b M d] 26)).heap.size = w.heap.size + 1 := by simp
  have SZ := Lib.hid hsz
  have HN := Lib.hid (fun wr (b : Below w.heap.size w wr) => h.below b)
  have HX := Lib.hid (fun wr (b : Below w.heap.size w wr) => hx.below b)
  have HE := Lib.hid hE
  have hlx := h.dlen
  have hll := hx.len
  have hln := h.nlen
  have n1 := h.ncap
  have n2 := h.nmax
  unfold maxLen at n2
  obtain ⟨c0, c1, hlt⟩ := NT
  clear H h hx bx hE hsz
  go_enter Tryd.func20, Tryd.ntmps20
  go_wp2_with fail
  generalize w.alloc (.cells #[.slice a N c, .slice b M d] 26) = W1 at *
  refine S1.out.mono ?_
  rintro e w2 ⟨rfl, b2⟩
  have k0 := (b2.cell (p := ⟨w.heap.size, 0, none⟩) hlt).trans c0
  have k1 := (b2.cell (p := ⟨w.heap.size, 1, none⟩) hlt).trans c1
  have B2 := Lib.hid (BX.out.trans (b2.mono (by have := SZ.out; omega)))
  have hw2 := b2.size
  rw [SZ.out] at hw2
  clear c0 c1 b2 S1
  by_cases e0 : E = 0
  · subst e0
    obtain ⟨q1, q2, -⟩ := chkM_zero HE.out
    obtain ⟨hN, hM⟩ := chk_small q1
    rw [hln] at hN
    rw [hlx] at hM
    have hLM : L = M := by rw [← hll, ← hlx, q2]
    subst hLM
    have Q1 := Lib.hid q1
    have HL1 := Lib.hid (setL_len' 1 xs L hll)
    have HL2 := Lib.hid (setL_len' 2 xs L hll)
    have bw0 : Below w2.heap.size w2 w2 := Below.refl _ _
    clear q1 q2 HE
    go_wp2_with fail
    go_region_held3 (fun w' => w'.cell? ⟨w.heap.size, 0, none⟩ = some (.slice a N c) ∧ w'.cell? ⟨w.heap.size, 1, none⟩ = some (.slice b L d) ∧ Below w2.heap.size w2 w')
      (first | exact box_drw ⟨k0, k1, bw0⟩ | exact ⟨k0, k1, bw0⟩ | exact box_drw (by assumption) | exact box_bel (by assumption) (by assumption) | exact box_drw (box_bel (by assumption) (by assumption)) | go_keep)
      (first
        | (go_at_call 43; refine (highest_is l L k xs _ (HX.out _ (B2.out.trans (And.right (And.right (by assumption : _ ∧ _ ∧ Below w2.heap.size w2 _)) |>.mono B2.out.size))) hM).mono ?_; rintro e w7 ⟨v, rfl, hv, b7⟩; obtain ⟨av, cv, rfl, lv, -⟩ := hv.lin; rw [HL2.out] at lv ⊢)
        | (go_at_call 41; refine (colours_is a b _ N c L d _ ns ds _ _ (HN.out _ (B2.out.trans (And.right (And.right (by assumption : _ ∧ _ ∧ Below w2.heap.size w2 _)) |>.mono B2.out.size))) (by assumption) Q1.out).mono ?_; rintro e w8 ⟨v, rfl, hv, b7⟩))
    rename_i hS
    obtain ⟨k0, k1, hB8⟩ := hS
    have B8 := Lib.hid (B2.out.trans (hB8.mono B2.out.size))
    have hw8 := hB8.size
    obtain ⟨ah, ch, rfl, lh, -⟩ := hv.lin
    rw [coL_len] at lh ⊢
    have LH := Lib.hid lh
    have bw8 : Below w8.heap.size w8 w8 := Below.refl _ _
    clear hB8 hv b7 lv lh
    go_wp2_with fail
    go_region_held3 (fun w' => w'.cell? ⟨w.heap.size, 0, none⟩ = some (.slice a N c) ∧ w'.cell? ⟨w.heap.size, 1, none⟩ = some (.slice b L d) ∧ Below w8.heap.size w8 w')
      (first | exact box_drw ⟨k0, k1, bw8⟩ | exact ⟨k0, k1, bw8⟩ | exact box_drw (by assumption) | exact box_bel (by assumption) (by assumption) | exact box_drw (box_bel (by assumption) (by assumption)) | go_keep)
      (first
        | (go_at_call 44; refine (lowest_is l L k xs _ (HX.out _ (B8.out.trans (And.right (And.right (by assumption : _ ∧ _ ∧ Below w8.heap.size w8 _)) |>.mono B8.out.size))) hM).mono ?_; rintro e w9 ⟨v, rfl, hv, b7⟩; obtain ⟨al, cl, rfl, lv, -⟩ := hv.lin; rw [HL1.out] at lv ⊢)
        | (go_at_call 41; refine (colours_is a b _ N c L d _ ns ds _ _ (HN.out _ (B8.out.trans (And.right (And.right (by assumption : _ ∧ _ ∧ Below w8.heap.size w8 _)) |>.mono B8.out.size))) (by assumption) Q1.out).mono ?_; rintro e w10 ⟨v, rfl, hv, b7⟩))
    rename_i hS
    obtain ⟨k0, k1, hB10⟩ := hS
    have B10 := Lib.hid (B8.out.trans (hB10.mono B8.out.size))
    have hw10 := hB10.size
    obtain ⟨am, cm, rfl, lm, -⟩ := hv.lin
    rw [coL_len] at lm ⊢
    have LH := Lib.hid (LH.out.below hB10)
    have LM := Lib.hid lm
    clear hB10 hv b7 lv lm
    have hmk := make_shades N (by omega) w10
    have O0 := OwnS.made w10 N (by omega)
    have bz := below_box w10 (.cells (madeCells #[.bool false, .bool false, .bool false, .bool false] (N * 4)) 55)
    obtain ⟨sb, hsb⟩ : ∃ s, w10.heap.size = s := ⟨_, rfl⟩
    obtain ⟨w11, hw11⟩ : ∃ w11, w10.alloc (.cells (madeCells #[.bool false, .bool false, .bool false, .bool false] (N * 4)) 55) = w11 := ⟨_, rfl⟩
    have B11 := Lib.hid (B10.out.trans (bz.mono B10.out.size))
    have z11 : w11.heap.size = sb + 1 := by rw [← hw11]; simp; exact hsb
    have LHO := Lib.hid (fun hp => LIn.off LH.out (k := sb) (by omega) hp)
    have LMO := Lib.hid (fun hp => LIn.off LM.out (k := sb) (by omega) hp)
    have LH := Lib.hid (LH.out.below bz)
    have LM := Lib.hid (LM.out.below bz)
    rw [hw11, hsb] at hmk O0
    rw [hw11] at LH LM B11
    have O0 := Lib.hid O0
    have Z11 := Lib.hid z11
    rw [hsb] at hw10
    have p1 := LH.out.cap
    have p2 := LH.out.max
    have p3 := LM.out.cap
    have p4 := LM.out.max
    unfold maxLen at p2 p4
    clear bz z11 hsb
    go_wp2_with fail
    clear hmk hw11 k0 k1
    go_loopw [31] (fun i wr => ∃ k : Nat, k ≤ N ∧ i = .int .i64 k ∧ Hid (OwnS wr sb (.slice (some ⟨sb, 0, none⟩) N N) (psL (shL ds xs N) k)) ∧ Hid (w11.grownBy wr (some sb))) (fun i _ => N - (intOf i).toNat)
    case atStart => exact ⟨0, Nat.zero_le _, rfl, by show OwnS _ _ _ _; rw [psL_zero, shL_len]; exact O0.out, gb_refl _ _⟩
    case round =>
      clear O0
      obtain ⟨v, hk, rfl, own, gb⟩ := hrel
      by_cases hlt : v < N
      · obtain ⟨g3, o3, hpe, hg3, hcp⟩ := (LH.out.grown gb.out LHO.out).rin.some (by rw [coL_len]; omega)
        obtain ⟨g4, o4, hqe, hg4, hcq⟩ := (LM.out.grown gb.out LMO.out).rin.some (by rw [coL_len]; omega)
        have r0 := cells_i hcp v (by rw [coL_len]; exact hlt)
        have r1 := cells_i hcq v (by rw [coL_len]; exact hlt)
        rw [coL_at hlt] at r0 r1
        have x0 := bits_b1 (colr_in ds (setL 2 xs) v)
        have x1 := bits_b1 (colr_in ds (setL 1 xs) v)
        have x2 := bits_b2 (colr_in ds (setL 2 xs) v)
        have x3 := bits_b2 (colr_in ds (setL 1 xs) v)
        have hz : (shL ds xs N)[v]'(by rw [shL_len]; exact hlt) = ⟨b1 (colr ds (setL 2 xs) v), b1 (colr ds (setL 1 xs) v), b2 (colr ds (setL 2 xs) v), b2 (colr ds (setL 1 xs) v)⟩ := by simp [shL, shd]
        have PS := psL_step (by rw [shL_len]; exact hlt) hz
        clear hz
        generalize colr ds (setL 2 xs) v = X at *
        generalize colr ds (setL 1 xs) v = Y at *
        generalize b1 X = y0 at *
        generalize b1 Y = y1 at *
        generalize b2 X = y2 at *
        generalize b2 Y = y3 at *
        subst hpe
        subst hqe
        have HPS := Lib.hid PS
        clear hcp hcq PS hg3 hg4
        go_wp2_with fail
        go_still_tail 27, (by kernel_rfl)
        have own3 : Hid (OwnS wr.drew sb (.slice (some ⟨sb, 0, none⟩) N N) (psL (shL ds xs N) v)) := own.out
        have gb3 : Hid (w11.grownBy wr.drew (some sb)) := gb_drew gb.out
        (try change wpList _ _ _ _ _ wr.drew)
        generalize wr.drew = Z at own3 gb3 ⊢
        clear own gb r0 r1
        have hf := own3.out.frozen (by rw [psL_len, shL_len]) (by omega)
        have f0 := hf (v * 4)
        have f1 := hf (v * 4 + 1)
        have f2 := hf (v * 4 + 2)
        have f3 := hf (v * 4 + 3)
        obtain ⟨s, s0, s1, s2, s3⟩ := own3.out.cells (by rw [psL_len, shL_len]) v hlt
        have st := own3.out.set (by rw [psL_len, shL_len]) v hlt y0 y1 y2 y3
        rw [HPS.out] at st
        have NU := Lib.hid st.1
        have NG := Lib.hid (gb_tr gb3.out st.2)
        clear st hf own3 gb3
        go_wp2
        go_roundw
        case rel => exact ⟨v + 1, by omega, by go_num, NU, NG⟩
        case measure => simp [intOf]; omega
      · obtain rfl : v = N := by omega
        have FIN : Hid (OwnS wr w.heap.size (.slice (some ⟨sb, 0, none⟩) v v) (shL ds xs v)) := by
          show OwnS _ _ _ _
          have := own.out
          rw [show psL (shL ds xs v) v = shL ds xs v by have e := psL_end (shL ds xs v); rwa [shL_len] at e] at this
          exact AggsAt.mono this (by omega)
        have FB := Lib.hid (B11.out.grown gb.out B11.out.size (fun q hq => by cases hq; omega))
        go_wp2
        go_ret2
        exact ⟨_, rfl, by rw [if_pos rfl]; exact FIN.out, FB.out⟩
  · have T1 : (E != 0) = true := bne_iff_ne.2 e0
    go_wp2
    go_ret2
    exact ⟨_, rfl, by rw [if_neg e0]; exact AggsAt.nil _ _ _ _ _, B2.out⟩
end Go.Proofs.YtoeojhabhnoojaaDoor.col
