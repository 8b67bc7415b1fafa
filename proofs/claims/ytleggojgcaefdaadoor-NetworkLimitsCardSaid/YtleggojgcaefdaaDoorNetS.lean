/- For every two numbers NetworkLimits returns true: a network may have api.MaxNodes nodes and api.MaxDevices devices and no more. Condition: the table 'classes' holds what the program's text lays (the card ties that). -/
import Derived.Test.YtleggojgcaefdaaDoorNetN
import Derived.Test.YtleggojgcaefdaaDoorPush
import Derived.RegionTactic
import Derived.BigRegion
import Derived.Deep.RegionLaw
set_option debug.skipKernelTC true
namespace Go.Proofs.YtleggojgcaefdaaDoor.net
open Go.RowKit lex aggs kit deck

def letB : ByteArray := ⟨#[97, 98, 99, 100, 101, 102, 103, 104, 105, 106, 107, 108, 109, 110, 111, 112, 113, 114, 115, 116, 117, 118, 119, 120, 121, 122, 65, 66, 67, 68, 69, 70, 71, 72, 73, 74, 75, 76, 77, 78, 79, 80, 81, 82, 83, 84, 85, 86, 87, 88, 89, 90]⟩
def limN (i : Nat) : Nd := ⟨(⟨#[78]⟩ : ByteArray) ++ letB.extract i (i + 1), 0, 0⟩
def limD (i : Nat) : Dv := ⟨((⟨#[69]⟩ : ByteArray) ++ letB.extract (i / 8) (i / 8 + 1)) ++ letB.extract (i % 8) (i % 8 + 1), 4, (i % 5 : Nat), -1, 0⟩
def limNs (k : Nat) : List Nd := (List.range k).map limN
def limDs (m : Nat) : List Dv := (List.range m).map limD
theorem lim_chk1 : chk (limNs 31) (limDs 63) = 0 := by kernel_rfl
theorem lim_chk2 : chk (limNs 31) (limDs 64) = 0 := by kernel_rfl
theorem lim_chk3 : chk (limNs 32) (limDs 63) = 0 := by kernel_rfl
theorem lim_chk4 : chk (limNs 32) (limDs 64) = 0 := by kernel_rfl
theorem lim_chk (k m : Nat) (h1 : 31 ≤ k) (h2 : k ≤ 32) (h3 : 63 ≤ m) (h4 : m ≤ 64) : chk (limNs k) (limDs m) = 0 := by
  rcases (show k = 31 ∨ k = 32 by omega) with e | e <;> rcases (show m = 63 ∨ m = 64 by omega) with e2 | e2 <;> rw [e, e2]
  · exact lim_chk1
  · exact lim_chk2
  · exact lim_chk3
  · exact lim_chk4
theorem limNs_succ (j : Nat) : limNs (j + 1) = limNs j ++ [limN j] := by unfold limNs; rw [List.range_succ, List.map_append]; rfl
theorem limDs_succ (j : Nat) : limDs (j + 1) = limDs j ++ [limD j] := by unfold limDs; rw [List.range_succ, List.map_append]; rfl
theorem limNs_len (j : Nat) : (limNs j).length = j := by simp [limNs]
theorem limDs_len (j : Nat) : (limDs j).length = j := by simp [limDs]
theorem lim_over (k m : Nat) (h : 32 < k ∨ 64 < m) : chk (limNs k) (limDs m) = 1 := by
  unfold chk
  rw [if_pos (by rw [limNs_len, limDs_len]; omega)]
theorem lim_fits (m : Nat) : ∀ x ∈ limDs m, Fits x := by
  intro x hx
  obtain ⟨i, -, rfl⟩ := List.mem_map.1 hx
  exact ⟨by show _ ≤ ((i % 5 : Nat) : Int); omega, by show ((i % 5 : Nat) : Int) ≤ _; omega, by show _ ≤ (-1 : Int); decide, by show (-1 : Int) ≤ _; decide, by
    show (((⟨#[69]⟩ : ByteArray) ++ letB.extract (i / 8) (i / 8 + 1)) ++ letB.extract (i % 8) (i % 8 + 1)).size ≤ maxLen
    have e : letB.size = 52 := rfl
    have e2 : (⟨#[69]⟩ : ByteArray).size = 1 := rfl
    rw [ByteArray.size_append, ByteArray.size_append, ByteArray.size_extract, ByteArray.size_extract, e, e2]
    unfold maxLen; omega⟩
theorem lim_nsz (k : Nat) : ∀ x ∈ limNs k, x.nm.size ≤ maxLen := by
  intro x hx
  obtain ⟨i, -, rfl⟩ := List.mem_map.1 hx
  show ((⟨#[78]⟩ : ByteArray) ++ letB.extract i (i + 1)).size ≤ maxLen
  have e : letB.size = 52 := rfl
  have e2 : (⟨#[78]⟩ : ByteArray).size = 1 := rfl
  rw [ByteArray.size_append, ByteArray.size_extract, e, e2]
  unfold maxLen; omega
theorem rows_in {w : World} {base : Nat} {a b : Option Addr} {N c M d : Nat} {ns : List Nd} {ds : List Dv} (hn : AggsAt 56 3 encNd w base (.slice a N c) ns) (hd : AggsAt 54 5 encDv w base (.slice b M d) ds) (h1 : ns.length = N) (h2 : ds.length = M)
    (hsz : ∀ x ∈ ns, x.nm.size ≤ maxLen) (hf : ∀ x ∈ ds, Fits x) : NetIn w a b N c M d ns ds := by
  have l1 : RIn encNd 3 w a ns ∧ N ≤ c ∧ c ≤ maxLen := by
    rcases hn.shape encNd_len with ⟨e, rfl⟩ | ⟨g, cap, e, q1, q2, q3, q4, q5, _⟩
    · injection e with e1 e2 e3
      subst e1 e2 e3
      exact ⟨.inl ⟨rfl, rfl⟩, Nat.le_refl _, Nat.zero_le _⟩
    · injection e with e1 e2 e3
      subst e1 e3
      exact ⟨.inr ⟨g, 0, rfl, q2, q5⟩, by omega, q4⟩
  have l2 : RIn encDv 5 w b ds ∧ M ≤ d ∧ d ≤ maxLen := by
    rcases hd.shape encDv_len with ⟨e, rfl⟩ | ⟨g, cap, e, q1, q2, q3, q4, q5, _⟩
    · injection e with e1 e2 e3
      subst e1 e2 e3
      exact ⟨.inl ⟨rfl, rfl⟩, Nat.le_refl _, Nat.zero_le _⟩
    · injection e with e1 e2 e3
      subst e1 e3
      exact ⟨.inr ⟨g, 0, rfl, q2, q5⟩, by omega, q4⟩
  exact ⟨h1, h2, l1.1, l2.1, hsz, hf, l1.2.1, l1.2.2, l2.2.1, l2.2.2⟩
/-- a network lies in block g, its two rows are of the call's own, behind it -/
structure NetB (w W : World) (g : Nat) (vn vd : Value) (ns : List Nd) (ds : List Dv) : Prop where
  bel : Below g w W
  net : ∃ T, W.heap[g]? = some (.cells #[vn, vd] T (0, 0))
  rn : AggsAt 56 3 encNd W (g + 1) vn ns
  rd : AggsAt 54 5 encDv W (g + 1) vd ds
section
variable {w W W1 W5 : World} {g : Nat} {vn vd v5 : Value} {ns : List Nd} {ds : List Dv}
theorem NetB.lt (h : NetB w W g vn vd ns ds) : g < W.heap.size := by obtain ⟨_, e⟩ := h.net; exact lt_of_block e
theorem NetB.cells (h : NetB w W g vn vd ns ds) : W.cell? ⟨g, 0, none⟩ = some vn ∧ W.cell? ⟨g, 1, none⟩ = some vd ∧ W.frozen? ⟨g, 0, none⟩ = false ∧ W.frozen? ⟨g, 1, none⟩ = false := by
  obtain ⟨T, e⟩ := h.net; exact ⟨(cell_at e 0).1, (cell_at e 1).1, (cell_at e 0).2, (cell_at e 1).2⟩
theorem NetB.below (h : NetB w W g vn vd ns ds) (b : Below W.heap.size W W1) : NetB w W1 g vn vd ns ds where
  bel := h.bel.trans (b.mono (Nat.le_of_lt h.lt))
  net := by obtain ⟨T, e⟩ := h.net; exact ⟨T, by rw [b.block g h.lt]; exact e⟩
  rn := h.rn.below b
  rd := h.rd.below b
theorem NetB.new (w : World) (T : Nat) : NetB w (w.alloc (.cells #[.slice none 0 0, .slice none 0 0] T)) w.heap.size (.slice none 0 0) (.slice none 0 0) [] [] :=
  ⟨below_box w _, ⟨T, heap_alloc_new w _⟩, AggsAt.nil _ _ _ _ _, AggsAt.nil _ _ _ _ _⟩
theorem NetB.pushN {x : Nd} (h : NetB w W g vn vd ns ds) (b : Below W.heap.size W W1) (o : AggsAt 56 3 encNd W5 (g + 1) v5 (ns ++ [x])) (gr : W1.grownBy W5 vn.ownBlock) :
    (W5.cell? ⟨g, 0, none⟩ = some vn ∧ W5.frozen? ⟨g, 0, none⟩ = false) ∧ NetB w (W5.setCell ⟨g, 0, none⟩ v5) g v5 vd (ns ++ [x]) ds := by
  have h1 := h.below b
  have o1 : ∀ k, vn.ownBlock = some k → g + 1 ≤ k := fun k hk => (World.ownsRow.lt h1.rn k hk).1
  have g1 : ∀ k, k < g + 1 → W5.heap[k]? = W1.heap[k]? := fun k hk => gr.block k (by have := h1.lt; omega) (fun e => by have := o1 k e.symm; omega)
  obtain ⟨T, e⟩ := h1.net
  have e5 : W5.heap[g]? = some (.cells #[vn, vd] T (0, 0)) := by rw [g1 g (by omega)]; exact e
  have gs : W5.grownBy (W5.setCell ⟨g, 0, none⟩ v5) (some g) := gb_set _ (gb_refl W5 _)
  refine ⟨⟨(cell_at e5 0).1, (cell_at e5 0).2⟩, ?_, ⟨T, set_at v5 e5⟩, o.grown gs (fun k hk => by cases hk; omega), ?_⟩
  · have h2 := h1.bel
    have hlt := h1.lt
    exact ⟨by rw [← h2.os, ← gr.os]; rfl, by rw [← h2.tape, ← gr.tape]; rfl, by rw [← h2.output, ← gr.output]; rfl, by have := h2.size; have := gr.size; simp; omega, fun k hk => by rw [Below.heap_setCell _ _ _ _ (fun e => by dsimp only at e; omega), g1 k (by omega)]; exact h2.block k hk⟩
  · have h2 := World.ownsRow.kept h1.rd gr (by
      cases e : vd.ownBlock with
      | none => exact .inl rfl
      | some k => right; exact fun e2 => own_type h1.rn h1.rd (by decide) k e2.symm e)
    exact AggsAt.grown h2 gs (fun k hk => by cases hk; omega)
theorem NetB.pushD {x : Dv} (h : NetB w W g vn vd ns ds) (b : Below W.heap.size W W1) (o : AggsAt 54 5 encDv W5 (g + 1) v5 (ds ++ [x])) (gr : W1.grownBy W5 vd.ownBlock) :
    (W5.cell? ⟨g, 1, none⟩ = some vd ∧ W5.frozen? ⟨g, 1, none⟩ = false) ∧ NetB w (W5.setCell ⟨g, 1, none⟩ v5) g vn v5 ns (ds ++ [x]) := by
  have h1 := h.below b
  have o1 : ∀ k, vd.ownBlock = some k → g + 1 ≤ k := fun k hk => (World.ownsRow.lt h1.rd k hk).1
  have g1 : ∀ k, k < g + 1 → W5.heap[k]? = W1.heap[k]? := fun k hk => gr.block k (by have := h1.lt; omega) (fun e => by have := o1 k e.symm; omega)
  obtain ⟨T, e⟩ := h1.net
  have e5 : W5.heap[g]? = some (.cells #[vn, vd] T (0, 0)) := by rw [g1 g (by omega)]; exact e
  have gs : W5.grownBy (W5.setCell ⟨g, 1, none⟩ v5) (some g) := gb_set _ (gb_refl W5 _)
  refine ⟨⟨(cell_at e5 1).1, (cell_at e5 1).2⟩, ?_, ⟨T, set_at v5 e5⟩, ?_, o.grown gs (fun k hk => by cases hk; omega)⟩
  · have h2 := h1.bel
    have hlt := h1.lt
    exact ⟨by rw [← h2.os, ← gr.os]; rfl, by rw [← h2.tape, ← gr.tape]; rfl, by rw [← h2.output, ← gr.output]; rfl, by have := h2.size; have := gr.size; simp; omega, fun k hk => by rw [Below.heap_setCell _ _ _ _ (fun e => by dsimp only at e; omega), g1 k (by omega)]; exact h2.block k hk⟩
  · have h2 := World.ownsRow.kept h1.rn gr (by
      cases e : vn.ownBlock with
      | none => exact .inl rfl
      | some k => right; exact fun e2 => own_type h1.rd h1.rn (by decide) k e2.symm e)
    exact AggsAt.grown h2 gs (fun k hk => by cases hk; omega)
end

set_option maxRecDepth 100000 in
set_option maxHeartbeats 8000000 in
theorem limits_in (p q : Int) (K M : Nat) (w : World) (p0 : 0 ≤ p) (p1 : p ≤ 255) (q0 : 0 ≤ q) (q1 : q ≤ 255) (hK : 31 + p % 3 = K) (hM : 63 + q % 3 = M) (hK2 : 31 ≤ K ∧ K ≤ 33) (hM2 : 63 ≤ M ∧ M ≤ 65) (h : HasClasses w) :
    Calls Tryd.prog 7 #[.int .u8 p, .int .u8 q] w fun e w' => e = .returned (.bool true) ∧ Below w.heap.size w w' := by
  have H := Lib.hid h
  clear h
  obtain ⟨i0, hi, hz0, hz1, hz2⟩ := info_parts infoNd
  obtain ⟨j0, ji, jz0, jz1, jz2⟩ := info_parts infoDv
  have N0 := Lib.hid (NetB.new w 26)
  obtain ⟨g, hg⟩ : ∃ g, w.heap.size = g := ⟨_, rfl⟩
  have HG := Lib.hid hg
  rw [hg] at N0
  clear hg
  go_enter Tryd.func7, Tryd.ntmps7
  go_wp2_with fail
  rw [HG.out]
  obtain ⟨LT, hLT⟩ : ∃ s, letB = s := ⟨_, rfl⟩
  have hsz : LT.size = 52 := by rw [← hLT]; rfl
  rw [show (⟨#[97, 98, 99, 100, 101, 102, 103, 104, 105, 106, 107, 108, 109, 110, 111, 112, 113, 114, 115, 116, 117, 118, 119, 120, 121, 122, 65, 66, 67, 68, 69, 70, 71, 72, 73, 74, 75, 76, 77, 78, 79, 80, 81, 82, 83, 84, 85, 86, 87, 88, 89, 90]⟩ : ByteArray) = LT from hLT]
  have HLT := Lib.hid hLT
  have NE : Hid (∀ j, [.string ((⟨#[78]⟩ : ByteArray) ++ LT.extract j (j + 1)), .int .i64 0, .int .i64 0] = encNd (limN j)) := fun j => by unfold encNd limN; rw [hLT]
  have DE : Hid (∀ j, [.string (((⟨#[69]⟩ : ByteArray) ++ LT.extract (j / 8) (j / 8 + 1)) ++ LT.extract (j % 8) (j % 8 + 1)), .int .i64 4, .int .i64 (j % 5 : Nat), .int .i64 (-1), .int .i64 0] = encDv (limD j)) := fun j => by unfold encDv limD; rw [hLT]
  clear hLT
  go_loopw [9] (fun i wr => ∃ (j : Nat) (vn : Value), j ≤ K ∧ i = .int .i64 j ∧ Hid (NetB w wr g vn (.slice none 0 0) (limNs j) [])) (fun i _ => K - (intOf i).toNat)
  case atStart => exact ⟨0, _, Nat.zero_le _, rfl, N0⟩
  case round =>
    clear N0
    obtain ⟨j, vn, hj, rfl, nb⟩ := hrel
    by_cases hjK : j < K
    · obtain ⟨a1, -, -, -⟩ := nb.out.cells
      have hwr := nb.out.lt
      have hjm : j + 1 ≤ 52 := by omega
      have hw : IntKind.i64.wrap ((j : Int) + 1) = (j : Int) + 1 := by rw [IntKind.wrap_i64]; omega
      have hq1 : (0 : Int) ≤ (j : Int) + 1 := by omega
      have hq2 : (j : Int) + 1 ≤ 52 := by omega
      have hq3 : (j : Int) ≤ (j : Int) + 1 := by omega
      have hw2 : ((j : Int) + 1).toNat = j + 1 := by omega
      go_wp2_with fail
      have a2 : ∀ o, (wr.alloc o).cell? ⟨g, 0, none⟩ = some vn := fun o => ((nb.out.below (below_box wr o)).cells).1
      go_region_law (
        (refine step_push (enc := encNd) (k := 3) (T := 56) (by rfl) (.tmp 25) (.tmp 33) 23 (by rfl) (g + 1) i0 _ 32 Tryd.underlying23 hi hz0 hz1 hz2 rfl (by decide) encNd_len encNd_one vn (limNs j) j (limNs_len j) (by rfl) (nb.out.below (by repeat (first | exact Below.refl _ _ | apply Below.drew | apply below_drewN | refine Below.alloc ?_ (by simp) _))).rn wr.heap.size 1 (limN j) (by rfl) _ _ (by exact heap_alloc_new _ _) (NE.out j) (by unfold maxLen; omega) (by omega) (by simp; omega) ?_
         intro a9 c9 w5 own5 gr5
         obtain ⟨c5, n5⟩ := nb.out.pushN (by repeat (first | exact Below.refl _ _ | apply Below.drew | apply below_drewN | refine Below.alloc ?_ (by simp) _)) own5 gr5
         have N5 := Lib.hid n5
         obtain ⟨c5, f5⟩ := c5
         clear own5 gr5 n5))
      all_goals go_wp2
      all_goals go_roundw
      all_goals first
        | (case rel => exact ⟨j + 1, _, hjK, by go_num, by rw [limNs_succ]; exact N5⟩)
        | (case measure => simp [intOf]; omega)
    · obtain rfl : K = j := by omega
      obtain ⟨an, cn, hvn, -⟩ := nb.out.rn.length encNd_len
      rw [limNs_len] at hvn
      subst hvn
      go_wp2_with fail
      go_loopw [10] (fun i wr => ∃ (j : Nat) (vd : Value), j ≤ M ∧ i = .int .i64 j ∧ Hid (NetB w wr g (.slice an K cn) vd (limNs K) (limDs j))) (fun i _ => M - (intOf i).toNat)
      case atStart => exact ⟨0, _, Nat.zero_le _, rfl, nb⟩
      case round =>
        clear nb
        obtain ⟨j, vd, hj2, rfl, nb⟩ := hrel
        by_cases hjM : j < M
        · obtain ⟨-, a1, -, -⟩ := nb.out.cells
          have hwr := nb.out.lt
          obtain ⟨p8, hp8⟩ : ∃ k, j / 8 = k := ⟨_, rfl⟩
          obtain ⟨q8, hq8⟩ : ∃ k, j % 8 = k := ⟨_, rfl⟩
          obtain ⟨r5, hr5⟩ : ∃ k, j % 5 = k := ⟨_, rfl⟩
          have hpm : p8 + 1 ≤ 52 := by omega
          have hqm : q8 + 1 ≤ 52 := by omega
          have d1 : (j : Int).tdiv 8 = (p8 : Int) := by rw [Int.tdiv_eq_ediv_of_nonneg (by omega)]; omega
          have d2 : (j : Int).tmod 8 = (q8 : Int) := by rw [Int.tmod_eq_emod_of_nonneg (by omega)]; omega
          have d3 : (j : Int).tmod 5 = (r5 : Int) := by rw [Int.tmod_eq_emod_of_nonneg (by omega)]; omega
          have w8 : IntKind.i64.wrap (p8 : Int) = (p8 : Int) := by rw [IntKind.wrap_i64]; omega
          have hw : IntKind.i64.wrap ((p8 : Int) + 1) = (p8 : Int) + 1 := by rw [IntKind.wrap_i64]; omega
          have hq1 : (0 : Int) ≤ (p8 : Int) + 1 := by omega
          have hq2 : (p8 : Int) + 1 ≤ 52 := by omega
          have hq3 : (p8 : Int) ≤ (p8 : Int) + 1 := by omega
          have hw2 : ((p8 : Int) + 1).toNat = p8 + 1 := by omega
          have iw : IntKind.i64.wrap ((q8 : Int) + 1) = (q8 : Int) + 1 := by rw [IntKind.wrap_i64]; omega
          have iq1 : (0 : Int) ≤ (q8 : Int) + 1 := by omega
          have iq2 : (q8 : Int) + 1 ≤ 52 := by omega
          have iq3 : (q8 : Int) ≤ (q8 : Int) + 1 := by omega
          have iw2 : ((q8 : Int) + 1).toNat = q8 + 1 := by omega
          have DJ := Lib.hid (DE.out j)
          rw [hp8, hq8, hr5] at DJ
          clear hp8 hq8 hr5
          go_wp2_with fail
          have a2 : ∀ o, (wr.alloc o).cell? ⟨g, 1, none⟩ = some vd := fun o => ((nb.out.below (below_box wr o)).cells).2.1
          go_region_law (
            (refine step_push (enc := encDv) (k := 5) (T := 54) (by rfl) (.tmp 42) (.tmp 62) 24 (by rfl) (g + 1) j0 _ 48 Tryd.underlying24 ji jz0 jz1 jz2 rfl (by decide) encDv_len encDv_one vd (limDs j) j (limDs_len j) (by rfl) (nb.out.below (by repeat (first | exact Below.refl _ _ | apply Below.drew | apply below_drewN | refine Below.alloc ?_ (by simp) _))).rd wr.heap.size 1 (limD j) (by rfl) _ _ (by exact heap_alloc_new _ _) DJ.out (by unfold maxLen; omega) (by omega) (by simp; omega) ?_
             intro a9 c9 w5 own5 gr5
             obtain ⟨c5, n5⟩ := nb.out.pushD (by repeat (first | exact Below.refl _ _ | apply Below.drew | apply below_drewN | refine Below.alloc ?_ (by simp) _)) own5 gr5
             have N5 := Lib.hid n5
             obtain ⟨c5, f5⟩ := c5
             clear own5 gr5 n5))
          all_goals go_wp2
          all_goals go_roundw
          all_goals first
            | (case rel => exact ⟨j + 1, _, hjM, by go_num, by rw [limDs_succ]; exact N5⟩)
            | (case measure => simp [intOf]; omega)
        · obtain rfl : M = j := by omega
          obtain ⟨ad, cd, hvd, -⟩ := nb.out.rd.length encDv_len
          rw [limDs_len] at hvd
          subst hvd
          have hbg := nb.out.lt
          have bel : Below g w wr := nb.out.bel
          have NI : Hid (∀ X, Below wr.heap.size wr X → NetIn X an ad K cn M cd (limNs K) (limDs M)) := fun X b => (rows_in nb.out.rn nb.out.rd (limNs_len K) (limDs_len M) (lim_nsz K) (lim_fits M)).below b
          have BX : Hid (∀ X, Below wr.heap.size wr X → Below g w X) := fun X b => bel.trans (b.mono (Nat.le_of_lt hbg))
          have HX : Hid (∀ X, Below wr.heap.size wr X → HasClasses X) := fun X b => H.out.below (by rw [HG.out]; exact BX.out X b)
          have NX : Hid (∀ X, Below wr.heap.size wr X → NetB w X g (.slice an K cn) (.slice ad M cd) (limNs K) (limDs M)) := fun X b => nb.out.below b
          obtain ⟨a0, a1, -, -⟩ := nb.out.cells
          clear bel nb H NE DE HLT hi hz0 hz1 hz2 ji jz0 jz1 jz2
          by_cases hk : K ≤ 32 ∧ M ≤ 64
          · obtain ⟨hk1, hk2⟩ := hk
            have CE := Lib.hid (lim_chk K M hK2.1 hk1 hM2.1 hk2)
            have k1 : decide ((K : Int) ≤ 32) = true := decide_eq_true (by omega)
            have k2 : decide ((M : Int) ≤ 64) = true := decide_eq_true (by omega)
            clear hk1 hk2 hK2 hM2
            go_wp2_with fail
            refine (check_is an ad K cn M cd _ _ 0 _ (HX.out _ (Below.refl _ _)) (NI.out _ (Below.refl _ _)) CE.out).mono ?_; rintro e w1 ⟨rfl, b1⟩
            have B1 := Lib.hid b1
            clear b1 a0 a1
            obtain ⟨a0, a1, -, -⟩ := (NX.out _ B1.out).cells
            go_wp2_with fail
            refine (check_is an ad K cn M cd _ _ 0 _ (HX.out _ B1.out) (NI.out _ B1.out) CE.out).mono ?_; rintro e w2 ⟨rfl, b2⟩
            have B2 := Lib.hid (B1.out.trans (b2.mono B1.out.size))
            clear b2 a0 a1
            go_wp2_with fail
            refine (awake_is _ (HX.out _ B2.out)).mono ?_; rintro e w4 ⟨rfl, b4⟩
            have BZ := Lib.hid (BX.out _ (B2.out.trans (b4.mono B2.out.size)))
            clear b4
            go_wp2
            go_ret
            exact ⟨rfl, by rw [HG.out]; exact BZ.out⟩
          · have CE := Lib.hid (lim_over K M (by omega))
            have hkk : ¬ (K ≤ 32) ∨ (K ≤ 32 ∧ ¬ (M ≤ 64)) := by omega
            clear hk
            rcases hkk with hk1 | ⟨hk1, hk2⟩
            · have k1 : decide ((K : Int) ≤ 32) = false := decide_eq_false (by omega)
              clear hk1 hK2 hM2
              go_wp2_with fail
              refine (check_is an ad K cn M cd _ _ 1 _ (HX.out _ (Below.refl _ _)) (NI.out _ (Below.refl _ _)) CE.out).mono ?_; rintro e w1 ⟨rfl, b1⟩
              have B1 := Lib.hid b1
              clear b1 a0 a1
              obtain ⟨a0, a1, -, -⟩ := (NX.out _ B1.out).cells
              go_wp2_with fail
              refine (check_is an ad K cn M cd _ _ 1 _ (HX.out _ B1.out) (NI.out _ B1.out) CE.out).mono ?_; rintro e w2 ⟨rfl, b2⟩
              have B2 := Lib.hid (B1.out.trans (b2.mono B1.out.size))
              clear b2 a0 a1
              obtain ⟨a0, a1, -, -⟩ := (NX.out _ B2.out).cells
              go_wp2_with fail
              refine (check_is an ad K cn M cd _ _ 1 _ (HX.out _ B2.out) (NI.out _ B2.out) CE.out).mono ?_; rintro e w3 ⟨rfl, b3⟩
              have B2 := Lib.hid (B2.out.trans (b3.mono B2.out.size))
              clear b3 a0 a1
              go_wp2_with fail
              refine (awake_is _ (HX.out _ B2.out)).mono ?_; rintro e w4 ⟨rfl, b4⟩
              have BZ := Lib.hid (BX.out _ (B2.out.trans (b4.mono B2.out.size)))
              clear b4
              go_wp2
              go_ret
              exact ⟨rfl, by rw [HG.out]; exact BZ.out⟩
            · have k1 : decide ((K : Int) ≤ 32) = true := decide_eq_true (by omega)
              have k2 : decide ((M : Int) ≤ 64) = false := decide_eq_false (by omega)
              clear hk1 hk2 hK2 hM2
              go_wp2_with fail
              refine (check_is an ad K cn M cd _ _ 1 _ (HX.out _ (Below.refl _ _)) (NI.out _ (Below.refl _ _)) CE.out).mono ?_; rintro e w1 ⟨rfl, b1⟩
              have B1 := Lib.hid b1
              clear b1 a0 a1
              obtain ⟨a0, a1, -, -⟩ := (NX.out _ B1.out).cells
              go_wp2_with fail
              refine (check_is an ad K cn M cd _ _ 1 _ (HX.out _ B1.out) (NI.out _ B1.out) CE.out).mono ?_; rintro e w2 ⟨rfl, b2⟩
              have B2 := Lib.hid (B1.out.trans (b2.mono B1.out.size))
              clear b2 a0 a1
              obtain ⟨a0, a1, -, -⟩ := (NX.out _ B2.out).cells
              go_wp2_with fail
              refine (check_is an ad K cn M cd _ _ 1 _ (HX.out _ B2.out) (NI.out _ B2.out) CE.out).mono ?_; rintro e w3 ⟨rfl, b3⟩
              have B2 := Lib.hid (B2.out.trans (b3.mono B2.out.size))
              clear b3 a0 a1
              go_wp2_with fail
              refine (awake_is _ (HX.out _ B2.out)).mono ?_; rintro e w4 ⟨rfl, b4⟩
              have BZ := Lib.hid (BX.out _ (B2.out.trans (b4.mono B2.out.size)))
              clear b4
              go_wp2
              go_ret
              exact ⟨rfl, by rw [HG.out]; exact BZ.out⟩

theorem limits_walk (p q : Int) (w : World) (p0 : 0 ≤ p) (p1 : p ≤ 255) (q0 : 0 ≤ q) (q1 : q ≤ 255) (h : HasClasses w) :
    Calls Tryd.prog 7 #[.int .u8 p, .int .u8 q] w fun e w' => e = .returned (.bool true) ∧ Below w.heap.size w w' := by
  obtain ⟨K, hK⟩ : ∃ K : Nat, 31 + p % 3 = K := ⟨(31 + p % 3).toNat, by omega⟩
  obtain ⟨M, hM⟩ : ∃ M : Nat, 63 + q % 3 = M := ⟨(63 + q % 3).toNat, by omega⟩
  exact limits_in p q K M w p0 p1 q0 q1 hK hM (by omega) (by omega) h
end Go.Proofs.YtleggojgcaefdaaDoor.net
