/- The walks of Print: a node's line. Condition: the tables hold what their texts lay. -/
import Derived.Test.YtdgllaiejhnjmaaDoorMdA
import Derived.Test.YtdgllaiejhnjmaaDoorMwTx
import Derived.Test.YtdgllaiejhnjmaaDoorMwJ
import Derived.Test.YtdgllaiejhnjmaaDoorInv
namespace Go.Proofs.YtdgllaiejhnjmaaDoor.mod
open Go.RowKit lex net aggs kit strs

theorem gKw : Tryd.prog.globalNamed "permitoffice/modeltext.kindWords" = some 0 := by kernel_rfl
/-- what every call of layer 4 reads: the two tables of layer 1, the words of kinds -/
structure MTabs (w : World) : Prop where
  tabs : Tabs w
  kinds : ∀ k : Nat, k ≤ 6 → w.cell? ⟨0, k, none⟩ = some (.string (bs (kw k)))
theorem MTabs.below {w w' : World} (h : MTabs w) (hb : Below w.heap.size w w') : MTabs w' where
  tabs := h.tabs.below hb
  kinds := fun k hk => by rw [hb.cell (p := ⟨0, k, none⟩) (World.block_lt_of_cell? w _ (h.kinds k hk))]; exact h.kinds k hk
set_option maxRecDepth 100000 in
theorem lineOf_is {base : Nat} {v : Value} {xs : List (List UInt8)} {w : World} (h : StrsAt w base v xs) (hlen : wsum xs ≤ 140737488355328) :
    Calls Tryd.prog 41 #[v] w fun e w' => e = .returned (.string (bs (Lib.join xs [32] ++ [10]))) ∧ Below w.heap.size w w' := by
  have J := Lib.hid (join_any h hlen)
  have SZ : (bs (Lib.join xs [32])).size ≤ 140737488355328 := by rw [bs_size]; exact Nat.le_trans (join_length xs) hlen
  clear h hlen
  go_enter Tryd.func41, Tryd.ntmps41
  go_wp2_with fail
  refine J.out.mono ?_; rintro e w2 ⟨rfl, b2⟩
  have B2 := Lib.hid b2
  have E := Lib.hid (bs_push (Lib.join xs [32]) 10)
  clear b2
  go_wp2
  go_ret
  exact ⟨by rw [← E.out]; rfl, B2.out⟩
theorem bsz {w W : World} {o : Obj} (h : Below (w.heap.size + 1) (w.alloc o) W) : w.heap.size + 1 ≤ W.heap.size := by have := h.size; simpa using this
/-- a row of strings that was just built -/
theorem StrsAt.built (w : World) (base : Nat) (C : Array Value) (n : Nat) (xs : List (List UInt8)) (hb : base ≤ w.heap.size) (hn : xs.length = n) (hm : n ≤ maxLen) (hC : C.toList = xs.map fun l => .string (bs l)) :
    StrsAt (w.alloc (.cells C 9)) base (.slice (some ⟨w.heap.size, 0, none⟩) n n) xs := by
  have := World.ownsRow_lit (base := base) (e := 9) (size := 1) w C n hb hm (by rw [← Array.length_toList, hC, List.length_map, hn, Nat.mul_one])
  rw [hC] at this
  unfold StrsAt; rw [hn]; exact this
def DNl (x : Nat) (nm : ByteArray) (cu co : Int) : Nat → Value → World → Prop
  | 0, v, _ => v = .pointer (some ⟨x, 0, none⟩)
  | 1, v, _ => v = .string nm
  | 2, v, _ => v = .pointer (some ⟨x, 1, none⟩)
  | 3, v, _ => v = .int .i64 cu
  | 4, v, _ => v = .string (bs (Lib.itoa cu))
  | 5, v, _ => v = .pointer (some ⟨x, 2, none⟩)
  | 6, v, _ => v = .int .i64 co
  | 7, v, _ => v = .string (bs (Lib.itoa co))
  | 8, v, W => StrsAt W x v [wNode, nm.data.toList, wCus, Lib.itoa cu, wCom, Lib.itoa co]
  | 9, v, _ => v = .string (bs (Lib.join [wNode, nm.data.toList, wCus, Lib.itoa cu, wCom, Lib.itoa co] [32] ++ [10]))
  | 10, v, _ => v = .string (bs (Lib.join [wNode, nm.data.toList, wCus, Lib.itoa cu, wCom, Lib.itoa co] [32] ++ [10]))
  | _, _, _ => True
theorem DNl.kept {x : Nat} {nm : ByteArray} {cu co : Int} {W W' : World} (hb : Below W.heap.size W W') : ∀ j v, DNl x nm cu co j v W → DNl x nm cu co j v W'
  | 0, _, h => h
  | 1, _, h => h
  | 2, _, h => h
  | 3, _, h => h
  | 4, _, h => h
  | 5, _, h => h
  | 6, _, h => h
  | 7, _, h => h
  | 8, _, h => StrsAt.below (show StrsAt _ _ _ _ from h) hb
  | 9, _, h => h
  | 10, _, h => h
  | _ + 11, _, h => h
set_option maxRecDepth 100000 in
set_option maxHeartbeats 2000000 in
theorem nodeLine_is (x : Nd) (w : World) (h : Tabs w) (hc : -9223372036854775808 ≤ x.cu ∧ x.cu ≤ 9223372036854775807) (ho : -9223372036854775808 ≤ x.co ∧ x.co ≤ 9223372036854775807) (hl : x.nm.size ≤ 1000000) :
    Calls Tryd.prog 28 #[.agg #[.string x.nm, .int .i64 x.cu, .int .i64 x.co]] w fun e w' => e = .returned (.string (bs (Lib.join (ndW x) [32] ++ [10]))) ∧ Below w.heap.size w w' := by
  obtain ⟨nm, cu, co⟩ := x
  unfold ndW
  dsimp only at hc ho hl ⊢
  have hw : Hid (wsum [wNode, nm.data.toList, wCus, Lib.itoa cu, wCom, Lib.itoa co] ≤ 140737488355328) := by
    have h1 := itoa_length cu hc.1 hc.2
    have h2 := itoa_length co ho.1 ho.2
    show wsum _ ≤ _
    simp only [wsum_cons, wsum_nil]
    have : nm.data.toList.length = nm.size := by simp
    have : wNode.length = 4 := rfl
    have : wCus.length = 9 := rfl
    have : wCom.length = 7 := rfl
    omega
  have BX := below_box w (.cells #[.string nm, .int .i64 cu, .int .i64 co] 51)
  have HT : Hid (∀ W, Below (w.heap.size + 1) (w.alloc (.cells #[.string nm, .int .i64 cu, .int .i64 co] 51)) W → Tabs W) := fun W hS => h.below (BX.trans (hS.mono (Nat.le_succ _)))
  have BX := Lib.hid BX
  clear h
  go_enter Tryd.func28, Tryd.ntmps28
  go_wp2_with fail
  refine inv.wp_region_inv (fun _ W => Below (w.heap.size + 1) (w.alloc (.cells #[.string nm, .int .i64 cu, .int .i64 co] 51)) W) (DNl w.heap.size nm cu co) (by kernel_rfl) (by kernel_rfl) (Below.refl _ _).drew ?steps ?rest
  case steps =>
    refine ⟨fun vs W done hS hD hno K hK => ?_, fun vs W done hS hD hno K hK => ?_, fun vs W done hS hD hno K hK => ?_, fun vs W done hS hD hno K hK => ?_, fun vs W done hS hD hno K hK => ?_, fun vs W done hS hD hno K hK => ?_, fun vs W done hS hD hno K hK => ?_, fun vs W done hS hD hno K hK => ?_, fun vs W done hS hD hno K hK => ?_, fun vs W done hS hD hno K hK => ?_, fun vs W done hS hD hno K hK => ?_, trivial⟩
    · simp only [inv.dstsL, inv.putT, Nat.reduceAdd, List.set_cons_zero, List.set_cons_succ]
      go_simp
      exact hK _ _ _ (by simp only [inv.dstsL, inv.putT, Nat.reduceAdd, List.set_cons_zero, List.set_cons_succ]; (try rfl)) (hS) (rfl) (fun _ _ h => h)
    · simp only [inv.dstsL, inv.putT, Nat.reduceAdd, List.set_cons_zero, List.set_cons_succ]
      have h0 : (vs 0) = .pointer (some ⟨w.heap.size, 0, none⟩) := hD 0 (by kernel_rfl)
      have c0 : W.cell? ⟨w.heap.size, 0, none⟩ = some (.string nm) := (hS.cell (p := ⟨w.heap.size, 0, none⟩) (Nat.lt_succ_self _)).trans (by rw [World.cell?_alloc_new]; rfl)
      rw [h0]
      go_simp
      exact hK _ _ _ (by simp only [inv.dstsL, inv.putT, Nat.reduceAdd, List.set_cons_zero, List.set_cons_succ, h0]; (try rfl)) (hS) (rfl) (fun _ _ h => h)
    · simp only [inv.dstsL, inv.putT, Nat.reduceAdd, List.set_cons_zero, List.set_cons_succ]
      go_simp
      exact hK _ _ _ (by simp only [inv.dstsL, inv.putT, Nat.reduceAdd, List.set_cons_zero, List.set_cons_succ]; (try rfl)) (hS) (rfl) (fun _ _ h => h)
    · simp only [inv.dstsL, inv.putT, Nat.reduceAdd, List.set_cons_zero, List.set_cons_succ]
      have h2 : (vs 2) = .pointer (some ⟨w.heap.size, 1, none⟩) := hD 2 (by kernel_rfl)
      have c1 : W.cell? ⟨w.heap.size, 1, none⟩ = some (.int .i64 cu) := (hS.cell (p := ⟨w.heap.size, 1, none⟩) (Nat.lt_succ_self _)).trans (by rw [World.cell?_alloc_new]; rfl)
      rw [h2]
      go_simp
      exact hK _ _ _ (by simp only [inv.dstsL, inv.putT, Nat.reduceAdd, List.set_cons_zero, List.set_cons_succ, h2]; (try rfl)) (hS) (rfl) (fun _ _ h => h)
    · simp only [inv.dstsL, inv.putT, Nat.reduceAdd, List.set_cons_zero, List.set_cons_succ]
      have h3 : (vs 3) = .int .i64 cu := hD 3 (by kernel_rfl)
      rw [h3]
      go_simp
      refine (text_any cu W (HT.out W hS) hc.1 hc.2).mono ?_; rintro e W2 ⟨rfl, b2⟩
      go_wp2_with fail
      exact hK _ _ _ (by simp only [inv.dstsL, inv.putT, Nat.reduceAdd, List.set_cons_zero, List.set_cons_succ, h3]; (try rfl)) (hS.trans (b2.mono (bsz hS))) (rfl) (DNl.kept b2)
    · simp only [inv.dstsL, inv.putT, Nat.reduceAdd, List.set_cons_zero, List.set_cons_succ]
      go_simp
      exact hK _ _ _ (by simp only [inv.dstsL, inv.putT, Nat.reduceAdd, List.set_cons_zero, List.set_cons_succ]; (try rfl)) (hS) (rfl) (fun _ _ h => h)
    · simp only [inv.dstsL, inv.putT, Nat.reduceAdd, List.set_cons_zero, List.set_cons_succ]
      have h5 : (vs 5) = .pointer (some ⟨w.heap.size, 2, none⟩) := hD 5 (by kernel_rfl)
      have c2 : W.cell? ⟨w.heap.size, 2, none⟩ = some (.int .i64 co) := (hS.cell (p := ⟨w.heap.size, 2, none⟩) (Nat.lt_succ_self _)).trans (by rw [World.cell?_alloc_new]; rfl)
      rw [h5]
      go_simp
      exact hK _ _ _ (by simp only [inv.dstsL, inv.putT, Nat.reduceAdd, List.set_cons_zero, List.set_cons_succ, h5]; (try rfl)) (hS) (rfl) (fun _ _ h => h)
    · simp only [inv.dstsL, inv.putT, Nat.reduceAdd, List.set_cons_zero, List.set_cons_succ]
      have h6 : (vs 6) = .int .i64 co := hD 6 (by kernel_rfl)
      rw [h6]
      go_simp
      refine (text_any co W (HT.out W hS) ho.1 ho.2).mono ?_; rintro e W2 ⟨rfl, b2⟩
      go_wp2_with fail
      exact hK _ _ _ (by simp only [inv.dstsL, inv.putT, Nat.reduceAdd, List.set_cons_zero, List.set_cons_succ, h6]; (try rfl)) (hS.trans (b2.mono (bsz hS))) (rfl) (DNl.kept b2)
    · simp only [inv.dstsL, inv.putT, Nat.reduceAdd, List.set_cons_zero, List.set_cons_succ]
      have h1 : (vs 1) = .string nm := hD 1 (by kernel_rfl)
      have h4 : (vs 4) = .string (bs (Lib.itoa cu)) := hD 4 (by kernel_rfl)
      have h7 : (vs 7) = .string (bs (Lib.itoa co)) := hD 7 (by kernel_rfl)
      rw [h1, h4, h7]
      go_simp
      exact hK _ _ _ (by simp only [inv.dstsL, inv.putT, Nat.reduceAdd, List.set_cons_zero, List.set_cons_succ, h1, h4, h7]; (try rfl)) (hS.trans ((below_box W _).mono (bsz hS))) (StrsAt.built W _ _ 6 _ (Nat.le_of_succ_le (bsz hS)) rfl (by decide) (by simp [bs_of]; exact ⟨rfl, rfl, rfl⟩)) (DNl.kept (below_box W _))
    · simp only [inv.dstsL, inv.putT, Nat.reduceAdd, List.set_cons_zero, List.set_cons_succ]
      have h8 : StrsAt W w.heap.size (vs 8) [wNode, nm.data.toList, wCus, Lib.itoa cu, wCom, Lib.itoa co] := hD 8 (by kernel_rfl)
      go_simp
      refine (lineOf_is h8 hw.out).mono ?_; rintro e W2 ⟨rfl, b2⟩
      go_wp2_with fail
      exact hK _ _ _ (by simp only [inv.dstsL, inv.putT, Nat.reduceAdd, List.set_cons_zero, List.set_cons_succ]; (try rfl)) (hS.trans (b2.mono (bsz hS))) (rfl) (DNl.kept b2)
    · simp only [inv.dstsL, inv.putT, Nat.reduceAdd, List.set_cons_zero, List.set_cons_succ]
      have h9 : (vs 9) = .string (bs (Lib.join [wNode, nm.data.toList, wCus, Lib.itoa cu, wCom, Lib.itoa co] [32] ++ [10])) := hD 9 (by kernel_rfl)
      rw [h9]
      go_simp
      exact hK _ _ _ (by simp only [inv.dstsL, inv.putT, Nat.reduceAdd, List.set_cons_zero, List.set_cons_succ, h9]; (try rfl)) (hS) (rfl) (fun _ _ h => h)
  case rest =>
    intro vs W done hdone hS hD
    have h10 : (vs 10) = .string (bs (Lib.join [wNode, nm.data.toList, wCus, Lib.itoa cu, wCom, Lib.itoa co] [32] ++ [10])) := hD 10 (by decide)
    simp only [inv.dstsL, inv.putT, Nat.reduceAdd, List.set_cons_zero, List.set_cons_succ]
    rw [h10]
    have BF := Lib.hid (BX.out.trans (hS.mono (Nat.le_succ _)))
    generalize vs 0 = y0, vs 1 = y1, vs 2 = y2, vs 3 = y3, vs 4 = y4, vs 5 = y5, vs 6 = y6, vs 7 = y7, vs 8 = y8, vs 9 = y9 at *
    clear hS hD hdone h10
    go_wp2
    go_ret
    exact ⟨rfl, BF.out⟩
end Go.Proofs.YtdgllaiejhnjmaaDoor.mod
