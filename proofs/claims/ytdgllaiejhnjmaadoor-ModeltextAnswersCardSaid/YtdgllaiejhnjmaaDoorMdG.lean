/- The walk of addNode: a node's line, behind its first word. Condition: the table 'classes' holds what its text lays. -/
import Derived.Test.YtdgllaiejhnjmaaDoorMdF
namespace Go.Proofs.YtdgllaiejhnjmaaDoor.mod
open Go.RowKit lex net aggs kit strs deck

/-- what a node's line says behind its first word -/
def nodeE (ws : List (List UInt8)) : Int := if ws.length = 5 ∧ at_ ws 1 = wCus ∧ at_ ws 3 = wCom ∧ numB (at_ ws 2) lim = true ∧ numB (at_ ws 4) lim = true then 0 else 2
def nodeY (ws : List (List UInt8)) : Nd := ⟨bs (at_ ws 0), numV (at_ ws 2) lim, numV (at_ ws 4) lim⟩
theorem WIn.get {W : World} {g o : Nat} {ws : List (List UInt8)} (h : WIn W g o ws) (i : Nat) (s : List UInt8) (hi : ws[i]? = some s) : W.cell? ⟨g, o + i, none⟩ = some (.string (bs s)) := by
  obtain ⟨h1, h2⟩ := List.getElem?_eq_some_iff.1 hi
  rw [← h2]; exact h i h1
def DAn (x g o c : Nat) (vn : Value) (s0 : ByteArray) (v1 v2 : Int) (ns : List Nd) : Nat → Value → World → Prop
  | 0, v, _ => v = .pointer (some ⟨x, 0, none⟩)
  | 1, v, _ => v = .pointer (some ⟨x, 0, none⟩)
  | 2, v, _ => v = .pointer (some ⟨x, 0, none⟩)
  | 3, v, _ => v = .pointer (some ⟨x, 0, none⟩)
  | 4, v, _ => v = vn
  | 5, v, _ => v = .slice (some ⟨g, o, none⟩) 5 c
  | 6, v, _ => v = .pointer (some ⟨g, o, none⟩)
  | 7, v, _ => v = .string s0
  | 8, v, _ => v = .int .i64 v1
  | 9, v, _ => v = .int .i64 v2
  | 10, v, _ => v = .agg #[.string s0, .int .i64 v1, .int .i64 v2]
  | 11, v, W => ∃ B, v = .slice (some ⟨B, 0, none⟩) 1 1 ∧ W.heap[B]? = some (.cells #[.string s0, .int .i64 v1, .int .i64 v2] 51 (0, 0)) ∧ x + 1 ≤ B ∧ vn.ownBlock ≠ some B
  | 12, v, W => AggsAt 51 3 encNd W (x + 1) v (ns ++ [⟨s0, v1, v2⟩])
  | 13, v, _ => v = .pointer (some ⟨x, 0, none⟩)
  | 14, v, _ => v = .pointer (some ⟨x, 0, none⟩)
  | _, _, _ => True
theorem DAn.kept {x g o c : Nat} {vn : Value} {s0 : ByteArray} {v1 v2 : Int} {ns : List Nd} {W W' : World} {row : Option Nat} (hg : W.grownBy W' row) (hr : ∀ k, row = some k → k < x + 1) : ∀ j v, DAn x g o c vn s0 v1 v2 ns j v W → DAn x g o c vn s0 v1 v2 ns j v W'
  | 0, _, h | 1, _, h | 2, _, h | 3, _, h | 4, _, h | 5, _, h | 6, _, h | 7, _, h | 8, _, h | 9, _, h | 10, _, h | 13, _, h | 14, _, h | 15, _, h | _ + 16, _, h => h
  | 11, _, ⟨B, h1, h2, h3, h4⟩ => ⟨B, h1, by rw [hg.block B (lt_of_block h2) (fun e => by have := hr B e.symm; omega)]; exact h2, h3, h4⟩
  | 12, _, h => AggsAt.grown (show AggsAt _ _ _ _ _ _ _ from h) hg hr
theorem DAn.kept2 {x g o c : Nat} {vn : Value} {s0 : ByteArray} {v1 v2 : Int} {ns : List Nd} {W W' : World} (hg : W.grownBy W' vn.ownBlock) : ∀ j v, j ≠ 12 → DAn x g o c vn s0 v1 v2 ns j v W → DAn x g o c vn s0 v1 v2 ns j v W'
  | 0, _, _, h | 1, _, _, h | 2, _, _, h | 3, _, _, h | 4, _, _, h | 5, _, _, h | 6, _, _, h | 7, _, _, h | 8, _, _, h | 9, _, _, h | 10, _, _, h | 13, _, _, h | 14, _, _, h | 15, _, _, h | _ + 16, _, _, h => h
  | 11, _, _, ⟨B, h1, h2, h3, h4⟩ => ⟨B, h1, by rw [hg.block B (lt_of_block h2) (fun e => h4 e.symm)]; exact h2, h3, h4⟩
  | 12, _, hj, _ => absurd rfl hj
set_option maxRecDepth 100000 in
set_option maxHeartbeats 4000000 in
theorem addNode_is (w : World) (x g o n c : Nat) (vn vd : Value) (ns : List Nd) (ds : List Dv) (ws : List (List UInt8)) (h : PB w x vn vd ns ds) (H : HasClasses w) (hw : WIn w g o ws) (hn : ws.length = n) (hc : n ≤ c) (hgx : g ≠ x) (hgl : g < w.heap.size) (hgv : vn.ownBlock ≠ some g) (hz : ∀ s ∈ ws, s.length ≤ 200000) (hl : ns.length ≤ 200000) (hnl : n ≤ 200000) :
    Calls Tryd.prog 45 #[.pointer (some ⟨x, 0, none⟩), .slice (some ⟨g, o, none⟩) n c] w fun e w' => e = .returned (.int .i64 (nodeE ws)) ∧ Below x w w' ∧ (nodeE ws = 0 → ∃ v, PB w' x v vd (ns ++ [nodeY ws]) ds) := by
  have XL := Lib.hid h.lt
  by_cases h5 : n = 5
  · subst h5
    obtain ⟨s0, s1, s2, s3, s4, rfl⟩ : ∃ s0 s1 s2 s3 s4, ws = [s0, s1, s2, s3, s4] := by
      match ws, hn with
      | [s0, s1, s2, s3, s4], _ => exact ⟨_, _, _, _, _, rfl⟩
    have c0 := hw.get 0 s0 rfl
    have c1 := hw.get 1 s1 rfl
    have c2 := hw.get 2 s2 rfl
    have c3 := hw.get 3 s3 rfl
    have c4 := hw.get 4 s4 rfl
    rw [Nat.add_zero] at c0
    have z2 : (bs s2).size ≤ maxLen := by have := hz s2 (by simp); rw [bs_size]; unfold maxLen; omega
    have z4 : (bs s4).size ≤ maxLen := by have := hz s4 (by simp); rw [bs_size]; unfold maxLen; omega
    obtain ⟨b1, hb1⟩ : ∃ b, (decide (bs s1 = bs wCus) && numB (bs s2).data.toList lim) = b := ⟨_, rfl⟩
    obtain ⟨b2, hb2⟩ : ∃ b, (decide (bs s3 = bs wCom) && numB (bs s4).data.toList lim) = b := ⟨_, rfl⟩
    obtain ⟨v1, hv1⟩ : ∃ v, (if bs s1 = bs wCus ∧ numB (bs s2).data.toList lim = true then numV (bs s2).data.toList lim else 0) = v := ⟨_, rfl⟩
    obtain ⟨v2, hv2⟩ : ∃ v, (if bs s3 = bs wCom ∧ numB (bs s4).data.toList lim = true then numV (bs s4).data.toList lim else 0) = v := ⟨_, rfl⟩
    have N1 := Lib.hid (fun n' c' (hn' : 2 ≤ n') => numberBehind_is (bs wCus) (bs s1) (bs s2) g (o + 1) n' c' v1 b1 w H hn' c1 c2 z2 hv1 hb1)
    have N2 := Lib.hid (fun n' c' (hn' : 2 ≤ n') => numberBehind_is (bs wCom) (bs s3) (bs s4) g (o + 3) n' c' v2 b2 w H hn' c3 c4 z4 hv2 hb2)
    rw [bs_data] at hb1 hb2 hv1 hv2
    have i1 : bs s1 = bs wCus ↔ s1 = wCus := ⟨bs_inj, fun e => by rw [e]⟩
    have i3 : bs s3 = bs wCom ↔ s3 = wCom := ⟨bs_inj, fun e => by rw [e]⟩
    have hE : nodeE [s0, s1, s2, s3, s4] = if b1 = true ∧ b2 = true then 0 else 2 := by
      rw [← hb1, ← hb2]
      unfold nodeE
      by_cases k : (s1 = wCus ∧ numB s2 lim = true) ∧ (s3 = wCom ∧ numB s4 lim = true)
      · exact (if_pos ⟨rfl, k.1.1, k.2.1, k.1.2, k.2.2⟩).trans (if_pos ⟨by rw [decide_eq_true (i1.2 k.1.1), k.1.2]; rfl, by rw [decide_eq_true (i3.2 k.2.1), k.2.2]; rfl⟩).symm
      · exact (if_neg (fun h => k ⟨⟨h.2.1, h.2.2.2.1⟩, h.2.2.1, h.2.2.2.2⟩)).trans (if_neg (fun h => k ⟨by have := h.1; rw [Bool.and_eq_true, decide_eq_true_eq] at this; exact ⟨i1.1 this.1, this.2⟩, by have := h.2; rw [Bool.and_eq_true, decide_eq_true_eq] at this; exact ⟨i3.1 this.1, this.2⟩⟩)).symm
    have hY : b1 = true → b2 = true → nodeY [s0, s1, s2, s3, s4] = ⟨bs s0, v1, v2⟩ := fun k1 k2 => by
      rw [← hb1, Bool.and_eq_true, decide_eq_true_eq] at k1
      rw [← hb2, Bool.and_eq_true, decide_eq_true_eq] at k2
      rw [if_pos k1] at hv1
      rw [if_pos k2] at hv2
      rw [← hv1, ← hv2]; rfl
    rw [hE]
    have C0 := Lib.hid c0
    have GL := Lib.hid hgl
    have GX := Lib.hid hgx
    have GV := Lib.hid hgv
    have HP := Lib.hid h
    have HY := Lib.hid hY
    have NL := Lib.hid hl
    clear hE hY hb1 hb2 hv1 hv2 i1 i3 c0 c1 c2 c3 c4 z2 z4 hw hz h H hgv hgx hgl
    cases b1
    · rw [if_neg (fun h => by cases h.1)]
      go_enter Tryd.func45, Tryd.ntmps45
      go_wp2_with fail
      refine (N1.out _ _ (by omega)).mono ?_; rintro e1 w1 ⟨rfl, rfl⟩
      go_wp2_with fail
      refine (N2.out _ _ (by omega)).mono ?_; rintro e1 w1 ⟨rfl, rfl⟩
      go_wp2
      go_ret
      exact ⟨rfl, Below.refl _ _, fun h => by cases h⟩
    · cases b2
      · rw [if_neg (fun h => by cases h.2)]
        go_enter Tryd.func45, Tryd.ntmps45
        go_wp2_with fail
        refine (N1.out _ _ (by omega)).mono ?_; rintro e1 w1 ⟨rfl, rfl⟩
        go_wp2_with fail
        refine (N2.out _ _ (by omega)).mono ?_; rintro e1 w1 ⟨rfl, rfl⟩
        go_wp2
        go_ret
        exact ⟨rfl, Below.refl _ _, fun h => by cases h⟩
      · rw [if_pos ⟨rfl, rfl⟩]
        have HS0 : Hid (SN w x vn vd ns ds ⟨bs s0, v1, v2⟩ 12 15 (fun _ => false) w.drew) := SN.start HP.out
        obtain ⟨i0, hi, hz0, hz1, hz2⟩ := info_parts infoNd
        go_enter Tryd.func45, Tryd.ntmps45
        go_wp2_with fail
        refine (N1.out _ _ (by omega)).mono ?_; rintro e1 w1 ⟨rfl, rfl⟩
        go_wp2_with fail
        refine (N2.out _ _ (by omega)).mono ?_; rintro e1 w1 ⟨rfl, rfl⟩
        go_wp2_with fail
        refine inv.wp_region_inv2 (SN w x vn vd ns ds ⟨bs s0, v1, v2⟩ 12 15) (DAn x g o c vn (bs s0) v1 v2 ns) (by kernel_rfl) (by kernel_rfl) HS0.out ?steps ?rest
        case steps =>
          refine ⟨fun vs W done hS hD hno hold hcl hme K hK => ?_, fun vs W done hS hD hno hold hcl hme K hK => ?_, fun vs W done hS hD hno hold hcl hme K hK => ?_, fun vs W done hS hD hno hold hcl hme K hK => ?_, fun vs W done hS hD hno hold hcl hme K hK => ?_, fun vs W done hS hD hno hold hcl hme K hK => ?_, fun vs W done hS hD hno hold hcl hme K hK => ?_, fun vs W done hS hD hno hold hcl hme K hK => ?_, fun vs W done hS hD hno hold hcl hme K hK => ?_, fun vs W done hS hD hno hold hcl hme K hK => ?_, fun vs W done hS hD hno hold hcl hme K hK => ?_, fun vs W done hS hD hno hold hcl hme K hK => ?_, fun vs W done hS hD hno hold hcl hme K hK => ?_, fun vs W done hS hD hno hold hcl hme K hK => ?_, fun vs W done hS hD hno hold hcl hme K hK => ?_, fun vs W done hS hD hno hold hcl hme K hK => ?_, trivial⟩
          · clear hold; clear hcl; simp only [inv.dstsL, inv.putT, Nat.reduceAdd, List.set_cons_zero, List.set_cons_succ]
            go_simp
            exact hK _ _ _ (by simp only [inv.dstsL, inv.putT, Nat.reduceAdd, List.set_cons_zero, List.set_cons_succ]; (try rfl)) (hS.mark 0 (by decide) (by decide)) (rfl) (fun _ _ _ _ h => h)
          · clear hold; clear hcl; simp only [inv.dstsL, inv.putT, Nat.reduceAdd, List.set_cons_zero, List.set_cons_succ]
            go_simp
            exact hK _ _ _ (by simp only [inv.dstsL, inv.putT, Nat.reduceAdd, List.set_cons_zero, List.set_cons_succ]; (try rfl)) (hS.mark 1 (by decide) (by decide)) (rfl) (fun _ _ _ _ h => h)
          · clear hold; clear hcl; simp only [inv.dstsL, inv.putT, Nat.reduceAdd, List.set_cons_zero, List.set_cons_succ]
            have h1 : (vs 1) = .pointer (some ⟨x, 0, none⟩) := hD 1 (by kernel_rfl)
            rw [h1]
            go_simp
            exact hK _ _ _ (by simp only [inv.dstsL, inv.putT, Nat.reduceAdd, List.set_cons_zero, List.set_cons_succ, h1]; (try rfl)) (hS.mark 2 (by decide) (by decide)) (rfl) (fun _ _ _ _ h => h)
          · clear hold; clear hcl; simp only [inv.dstsL, inv.putT, Nat.reduceAdd, List.set_cons_zero, List.set_cons_succ]
            have h2 : (vs 2) = .pointer (some ⟨x, 0, none⟩) := hD 2 (by kernel_rfl)
            rw [h2]
            go_simp
            exact hK _ _ _ (by simp only [inv.dstsL, inv.putT, Nat.reduceAdd, List.set_cons_zero, List.set_cons_succ, h2]; (try rfl)) (hS.mark 3 (by decide) (by decide)) (rfl) (fun _ _ _ _ h => h)
          · clear hold; simp only [inv.dstsL, inv.putT, Nat.reduceAdd, List.set_cons_zero, List.set_cons_succ]
            have h3 : (vs 3) = .pointer (some ⟨x, 0, none⟩) := hD 3 (by kernel_rfl)
            have d12 := hno 12 (by kernel_rfl)
            have d15 : done 15 = false := Bool.eq_false_iff.2 (fun h => by have := hcl 15 (by decide) h 12 (by kernel_rfl); rw [d12] at this; cases this)
            obtain ⟨T, p, e, e1, -⟩ := hS.net
            rw [e1 d15] at e
            have c0 := (cell_at e 0).1
            clear hcl d12 d15 e1
            rw [h3]
            go_simp
            exact hK _ _ _ (by simp only [inv.dstsL, inv.putT, Nat.reduceAdd, List.set_cons_zero, List.set_cons_succ, h3]; (try rfl)) (hS.mark 4 (by decide) (by decide)) (rfl) (fun _ _ _ _ h => h)
          · clear hold; clear hcl; simp only [inv.dstsL, inv.putT, Nat.reduceAdd, List.set_cons_zero, List.set_cons_succ]
            go_simp
            exact hK _ _ _ (by simp only [inv.dstsL, inv.putT, Nat.reduceAdd, List.set_cons_zero, List.set_cons_succ]; (try rfl)) (hS.mark 5 (by decide) (by decide)) (rfl) (fun _ _ _ _ h => h)
          · clear hold; clear hcl; simp only [inv.dstsL, inv.putT, Nat.reduceAdd, List.set_cons_zero, List.set_cons_succ]
            have h5 : (vs 5) = .slice (some ⟨g, o, none⟩) 5 c := hD 5 (by kernel_rfl)
            rw [h5]
            go_simp
            exact hK _ _ _ (by simp only [inv.dstsL, inv.putT, Nat.reduceAdd, List.set_cons_zero, List.set_cons_succ, h5]; (try rfl)) (hS.mark 6 (by decide) (by decide)) (rfl) (fun _ _ _ _ h => h)
          · clear hold; clear hcl; simp only [inv.dstsL, inv.putT, Nat.reduceAdd, List.set_cons_zero, List.set_cons_succ]
            have h6 : (vs 6) = .pointer (some ⟨g, o, none⟩) := hD 6 (by kernel_rfl)
            have c0 : W.cell? ⟨g, o, none⟩ = some (.string (bs s0)) := (World.cell?_of_block (a := ⟨g, o, none⟩) (hS.keep g GL.out GX.out GV.out)).trans C0.out
            rw [h6]
            go_simp
            exact hK _ _ _ (by simp only [inv.dstsL, inv.putT, Nat.reduceAdd, List.set_cons_zero, List.set_cons_succ, h6]; (try rfl)) (hS.mark 7 (by decide) (by decide)) (rfl) (fun _ _ _ _ h => h)
          · clear hold; clear hcl; simp only [inv.dstsL, inv.putT, Nat.reduceAdd, List.set_cons_zero, List.set_cons_succ]
            go_simp
            exact hK _ _ _ (by simp only [inv.dstsL, inv.putT, Nat.reduceAdd, List.set_cons_zero, List.set_cons_succ]; (try rfl)) (hS.mark 8 (by decide) (by decide)) (rfl) (fun _ _ _ _ h => h)
          · clear hold; clear hcl; simp only [inv.dstsL, inv.putT, Nat.reduceAdd, List.set_cons_zero, List.set_cons_succ]
            go_simp
            exact hK _ _ _ (by simp only [inv.dstsL, inv.putT, Nat.reduceAdd, List.set_cons_zero, List.set_cons_succ]; (try rfl)) (hS.mark 9 (by decide) (by decide)) (rfl) (fun _ _ _ _ h => h)
          · clear hold; clear hcl; simp only [inv.dstsL, inv.putT, Nat.reduceAdd, List.set_cons_zero, List.set_cons_succ]
            have h7 : (vs 7) = .string (bs s0) := hD 7 (by kernel_rfl)
            have h8 : (vs 8) = .int .i64 v1 := hD 8 (by kernel_rfl)
            have h9 : (vs 9) = .int .i64 v2 := hD 9 (by kernel_rfl)
            rw [h7, h8, h9]
            go_simp
            exact hK _ _ _ (by simp only [inv.dstsL, inv.putT, Nat.reduceAdd, List.set_cons_zero, List.set_cons_succ, h7, h8, h9]; (try rfl)) (hS.mark 10 (by decide) (by decide)) (rfl) (fun _ _ _ _ h => h)
          · clear hold; clear hcl; simp only [inv.dstsL, inv.putT, Nat.reduceAdd, List.set_cons_zero, List.set_cons_succ]
            have h10 : (vs 10) = .agg #[.string (bs s0), .int .i64 v1, .int .i64 v2] := hD 10 (by kernel_rfl)
            have d12 := hno 12 (by kernel_rfl)
            have hr := hS.row d12
            have hxs : x < W.heap.size := by obtain ⟨T, p, e, -⟩ := hS.net; exact lt_of_block e
            rw [h10]
            go_simp
            exact hK _ _ _ (by simp only [inv.dstsL, inv.putT, Nat.reduceAdd, List.set_cons_zero, List.set_cons_succ, h10]; (try rfl)) ((hS.alloc _).mark 11 (by decide) (by decide)) (⟨W.heap.size, rfl, heap_alloc_new _ _, hxs, fun k => by have := (World.ownsRow.lt hr _ k).2; omega⟩) (fun j v _ _ => (DAn.kept (grown_alloc (gb_refl W none) _) (fun k hk => by cases hk)) j v)
          · clear hold; clear hcl; simp only [inv.dstsL, inv.putT, Nat.reduceAdd, List.set_cons_zero, List.set_cons_succ]
            have h4 : (vs 4) = vn := hD 4 (by kernel_rfl)
            have h11 : ∃ B, (vs 11) = .slice (some ⟨B, 0, none⟩) 1 1 ∧ W.heap[B]? = some (.cells #[.string (bs s0), .int .i64 v1, .int .i64 v2] 51 (0, 0)) ∧ x + 1 ≤ B ∧ vn.ownBlock ≠ some B := hD 11 (by kernel_rfl)
            obtain ⟨B, h11, h11b, h11c, h11d⟩ := h11
            have d15 := hno 15 (by kernel_rfl)
            have d12 : done 12 = false := hme
            refine step_append_own (by rfl) (.tmp 34) (.tmp 41) 23 (by rfl) (x + 1) 51 i0 _ 3 32 Tryd.underlying23 hi hz0 hz1 hz2 rfl (by decide) vn ns.length (flat encNd ns) (by exact h4) (hS.row d12) ⟨B, 0, none⟩ 1 1 (encNd ⟨bs s0, v1, v2⟩) (by exact h11) rfl (news_of h11b rfl) (encNd_one _) (by unfold maxLen; have := NL.out; omega) (by have := NL.out; omega) (by have := lt_of_block h11b; omega) ?_
            intro v' w' hown hg _
            exact hK _ _ _ (by simp only [inv.dstsL, inv.putT, Nat.reduceAdd, List.set_cons_zero, List.set_cons_succ]; (try rfl)) (hS.app d12 d15 (by decide) hg) (AggsAt.push hown) (fun j v hji _ h => DAn.kept2 hg j v hji h)
          · clear hold; clear hcl; simp only [inv.dstsL, inv.putT, Nat.reduceAdd, List.set_cons_zero, List.set_cons_succ]
            have h0 : (vs 0) = .pointer (some ⟨x, 0, none⟩) := hD 0 (by kernel_rfl)
            rw [h0]
            go_simp
            exact hK _ _ _ (by simp only [inv.dstsL, inv.putT, Nat.reduceAdd, List.set_cons_zero, List.set_cons_succ, h0]; (try rfl)) (hS.mark 13 (by decide) (by decide)) (rfl) (fun _ _ _ _ h => h)
          · clear hold; clear hcl; simp only [inv.dstsL, inv.putT, Nat.reduceAdd, List.set_cons_zero, List.set_cons_succ]
            have h13 : (vs 13) = .pointer (some ⟨x, 0, none⟩) := hD 13 (by kernel_rfl)
            rw [h13]
            go_simp
            exact hK _ _ _ (by simp only [inv.dstsL, inv.putT, Nat.reduceAdd, List.set_cons_zero, List.set_cons_succ, h13]; (try rfl)) (hS.mark 14 (by decide) (by decide)) (rfl) (fun _ _ _ _ h => h)
          · clear hold; clear hcl; simp only [inv.dstsL, inv.putT, Nat.reduceAdd, List.set_cons_zero, List.set_cons_succ]
            have h12 : AggsAt 51 3 encNd W (x + 1) (vs 12) (ns ++ [⟨(bs s0), v1, v2⟩]) := hD 12 (by kernel_rfl)
            have h14 : (vs 14) = .pointer (some ⟨x, 0, none⟩) := hD 14 (by kernel_rfl)
            obtain ⟨T, p, e, -⟩ := hS.net
            obtain ⟨c0, f0⟩ := cell_at e 0
            obtain ⟨a9, c9, h102⟩ : ∃ a9 c9, vs 12 = .slice a9 (ns.length + 1) c9 := by obtain ⟨a9, c9, e, -⟩ := AggsAt.length h12 encNd_len; exact ⟨a9, c9, by rw [e, List.length_append]; rfl⟩
            rw [h102] at h12
            rw [h14, h102]
            go_simp
            exact hK undef _ _ (by simp only [inv.dstsL, inv.putT, Nat.reduceAdd, List.set_cons_zero, List.set_cons_succ, h14, h102]; (try rfl)) (hS.store XL.out h12) (by first | rfl | trivial) (fun j v _ _ => (DAn.kept (gb_set _ (gb_refl W (some x))) (fun k hk => by cases hk; omega)) j v)
        case rest =>
          intro vs W done hdone hS hD
          obtain ⟨BL, vE, PE⟩ := hS.fin (hdone 15 (by decide))
          have BL := Lib.hid BL
          have PE := Lib.hid PE
          simp only [inv.dstsL, inv.putT, Nat.reduceAdd, List.set_cons_zero, List.set_cons_succ]
          generalize vs 0 = y0, vs 1 = y1, vs 2 = y2, vs 3 = y3, vs 4 = y4, vs 5 = y5, vs 6 = y6, vs 7 = y7, vs 8 = y8, vs 9 = y9, vs 10 = y10, vs 11 = y11, vs 12 = y12, vs 13 = y13, vs 14 = y14 at *
          clear hD hdone hS
          go_wp2
          go_ret
          exact ⟨rfl, BL.out, fun _ => ⟨vE, by rw [HY.out (by first | rfl | trivial) (by first | rfl | trivial)]; exact PE.out⟩⟩
  · have hE : nodeE ws = 2 := by unfold nodeE; rw [if_neg (fun h => h5 (hn ▸ h.1))]
    rw [hE]
    have T : ((n : Int) != 5) = true := by rw [bne_iff_ne]; omega
    clear hE hw hn hz h H hgv hgx hgl
    go_enter Tryd.func45, Tryd.ntmps45
    go_wp2
    go_ret
    exact ⟨rfl, Below.refl _ _, fun h => by cases h⟩
end Go.Proofs.YtdgllaiejhnjmaaDoor.mod
