/- The walk of slices.Delete (of one) at lists of people. Condition: at most 64 people. -/
import Derived.Test.YthdjpmiohfaphaaGreatDoorPgF
namespace Go.Proofs.YthdjpmiohfaphaaGreatDoor.reg
open Go.RowKit lex aggs kit net deck slk

theorem flat_erase (ps : List Pn) (i : Nat) (hi : i < ps.length) : flat encPn (ps.eraseIdx i) = (flat encPn ps).take (i * 5) ++ (flat encPn ps).drop ((i + 1) * 5) := by
  have e : flat encPn ps = flat encPn (ps.take i) ++ flat encPn (ps.drop i) := by rw [← flat_append, List.take_append_drop]
  have e2 : flat encPn ps = flat encPn (ps.take (i + 1)) ++ flat encPn (ps.drop (i + 1)) := by rw [← flat_append, List.take_append_drop]
  have hl : (flat encPn (ps.take i)).length = i * 5 := by rw [flat_length encPn_len, List.length_take, Nat.min_eq_left (by omega)]
  have hl2 : (flat encPn (ps.take (i + 1))).length = (i + 1) * 5 := by rw [flat_length encPn_len, List.length_take, Nat.min_eq_left (by omega)]
  have h1 : (flat encPn ps).take (i * 5) = flat encPn (ps.take i) := by rw [e, List.take_left' hl]
  have h2 : (flat encPn ps).drop ((i + 1) * 5) = flat encPn (ps.drop (i + 1)) := by rw [e2, List.drop_left' hl2]
  rw [List.eraseIdx_eq_take_drop_succ, flat_append, h1, h2]
theorem zeroPn (w : World) : (zeroValue 27).run Tryz.prog w = .ok (.agg #[.string ⟨#[]⟩, .int .i64 0, .int .i64 0, .int .i64 0, .int .i64 0]) w := by kernel_rfl
/-- what Delete leaves -/
def DelPost (base i : Nat) (v : Value) (ps : List Pn) (w : World) (e : Ending) (w' : World) : Prop :=
  ∃ v', e = .returned v' ∧ AggsAt 27 5 encPn w' base v' (ps.eraseIdx i) ∧ w.grownBy w' v.ownBlock
set_option maxRecDepth 100000 in
set_option maxHeartbeats 4000000 in
theorem delete_row (base g c i m : Nat) (cur : Array Value) (ps : List Pn) (w : World) (hg : w.heap[g]? = some (.cells cur 27 (0, 0))) (hcs : cur.size = c * 5) (htk : cur.toList.take ((i + 1 + m) * 5) = flat encPn ps) (hn : ps.length = i + 1 + m) (_h64 : i + 1 + m ≤ 64) (hnc : i + 1 + m ≤ c) (hcm : c ≤ maxLen) (hbg : base ≤ g) :
    Calls Tryz.prog 31 #[.slice (some ⟨g, 0, none⟩) (i + 1 + m) c, .int .i64 i, .int .i64 ((i + 1 : Nat) : Int)] w (DelPost base i (.slice (some ⟨g, 0, none⟩) (i + 1 + m) c) ps w) := by
  obtain ⟨i0, hi0, hz0, hzs, hzb⟩ := info_parts infoPn
  obtain ⟨F, hF⟩ : ∃ F, flat encPn ps = F := ⟨_, rfl⟩
  have hFl : F.length = (i + 1 + m) * 5 := by rw [← hF, flat_length encPn_len, hn]
  rw [hF] at htk
  have hcell : ∀ j v, F[j]? = some v → w.cell? ⟨g, j, none⟩ = some v := fun j v hj => by
    rw [← htk, List.getElem?_take] at hj
    split at hj
    · exact (cell_at hg j).1.trans (by simpa using hj)
    · cases hj
  have hdl : (F.drop ((i + 1) * 5)).length = m * 5 := by rw [List.length_drop, hFl]; omega
  obtain ⟨A, hA, hsrc⟩ : ∃ A : Addr, (if c = i + 1 then some (⟨g, 0, none⟩ : Addr) else some ⟨g, (i + 1) * 5, none⟩) = some A ∧ Hid (∀ j u, (F.drop ((i + 1) * 5))[j]? = some u → w.drew.cell? (A.add j) = some u) := by
    by_cases h : c = i + 1
    · refine ⟨⟨g, 0, none⟩, by simp [h], fun j u hu => ?_⟩
      have h0 : (F.drop ((i + 1) * 5)).length = 0 := by rw [hdl]; omega
      rw [List.length_eq_zero_iff.1 h0] at hu
      simp at hu
    · refine ⟨⟨g, (i + 1) * 5, none⟩, by simp [h], fun j u hu => ?_⟩
      rw [Go.WideShapes.add_plain]
      rw [List.getElem?_drop] at hu
      exact hcell _ _ hu
  have ONE : Hid (∀ v ∈ F.drop ((i + 1) * 5), v.oneCell' = true) := fun v hv => flat_oneCell encPn_one ps v (by rw [hF]; exact List.mem_of_mem_drop hv)
  have HG := Lib.hid hg
  have HC := Lib.hid hcs
  have HT := Lib.hid htk
  have HN := Lib.hid hn
  have HF := Lib.hid hF
  have HFl := Lib.hid hFl
  have DL := Lib.hid hdl
  unfold maxLen at hcm
  have hic : (i : Int) ≤ (c : Int) := by omega
  have hjc : ((i + 1 : Nat) : Int) ≤ (c : Int) := by omega
  have hjn : ((i + 1 : Nat) : Int) ≤ ((i + 1 + m : Nat) : Int) := by omega
  have hij : (i : Int) ≤ ((i + 1 : Nat) : Int) := by omega
  have hne : ((i : Int) == ((i + 1 : Nat) : Int)) = false := beq_eq_false_iff_ne.2 (by omega)
  have hb1 : (0 : Int) ≤ (i : Int) + 1 := by omega
  have hb2 : (i : Int) + 1 ≤ (i : Int) + 1 + (m : Int) := by omega
  have mixed : Tryz.prog.follows .mixedOrders = true := by kernel_rfl
  clear hg hcs htk hn hF hFl hdl hcell
  go_enter Tryz.func31, Tryz.ntmps31
  go_wp2
  go_region_law_o (refine step_app_front (by rfl) (.tmp 22) (.tmp 25) 23 (by rfl) 27 i0 Tryz.underlying23 hi0 5 hzs g i c (by simp [Act.eval, Act.put]) cur HG.out A m (c - (i + 1)) (by simp [Act.eval, Act.put]) (F.drop ((i + 1) * 5)) DL.out hsrc.out ONE.out (by omega) (by rw [DL.out, HC.out]; omega) ?_; intro w1 h1 g1)
  have G1 : Hid (w.grownBy w1 (some g)) := ⟨g1.os, g1.tape, g1.output, g1.size, g1.block⟩
  obtain ⟨L1, hL1⟩ : ∃ L1, cur.toList.take (i * 5) ++ F.drop ((i + 1) * 5) ++ cur.toList.drop (i * 5 + (F.drop ((i + 1) * 5)).length) = L1 := ⟨_, rfl⟩
  rw [hL1] at h1
  have LS : L1.length = c * 5 := by
    rw [← hL1]
    simp only [List.length_append, List.length_take, List.length_drop, Array.length_toList]
    rw [HC.out, HFl.out]
    omega
  have LT : L1.take ((i + m) * 5) = F.take (i * 5) ++ F.drop ((i + 1) * 5) := by
    rw [← hL1]
    exact list_delete cur.toList F i (i + 1 + m) 5 HT.out HFl.out (by omega) (by rw [Array.length_toList, HC.out]; omega) |> (fun h => by rw [show i + 1 + m - 1 = i + m by omega] at h; exact h)
  have HLS := Lib.hid LS
  have HLT := Lib.hid LT
  have HH1 := Lib.hid h1.out
  clear g1 hL1 LS LT h1 hA hsrc
  go_wp2_with (refine wpList_clear_k rfl (.tmp 31) 23 rfl 27 Tryz.underlying23 _ 5 zeroPn rfl (by decide) g ((i + m) * 5) _ _ rfl (by omega) L1.toArray HH1.out (by rw [List.size_toArray, HLS.out]; omega) ?_; intro w2 A2 h2 s2 t2 g2)
  have G2 := Lib.hid (G1.out.andThen g2 (fun j hj => by cases hj; exact .inr rfl))
  have A3 : Hid (AggsAt 27 5 encPn w2 base (.slice (some ⟨g, 0, none⟩) (i + m) c) (ps.eraseIdx i)) := by
    show w2.ownsRow _ _ 5 _ _ _
    rw [flat_erase ps i (by rw [HN.out]; omega), List.length_eraseIdx, if_pos (by rw [HN.out]; omega), HN.out, show i + 1 + m - 1 = i + m by omega, HF.out]
    refine ⟨?_, .inr ⟨g, c, A2, rfl, hbg, h2.out, by omega, by unfold maxLen; exact hcm, ?_, ?_⟩⟩
    · rw [List.length_append, List.length_take, List.length_drop, HFl.out]; omega
    · rw [s2, List.size_toArray, HLS.out]
    · rw [t2]; exact HLT.out
  clear g2 h2 s2 t2
  go_ret
  exact ⟨_, rfl, A3.out, G2.out⟩
/-- slices.Delete of one -/
theorem delete_is (base i : Nat) (v : Value) (ps : List Pn) (w : World) (hv : AggsAt 27 5 encPn w base v ps) (h64 : ps.length ≤ 64) (hi : i < ps.length) :
    Calls Tryz.prog 31 #[v, .int .i64 i, .int .i64 ((i + 1 : Nat) : Int)] w (DelPost base i v ps w) := by
  rcases hv.2 with ⟨_, h0⟩ | ⟨g, c, cur, rfl, hbg, hg, hnc, hcm, hcs, htk⟩
  · omega
  · obtain ⟨m, hm⟩ : ∃ m, ps.length = i + 1 + m := ⟨ps.length - (i + 1), by omega⟩
    rw [hm] at hnc htk h64 ⊢
    exact delete_row base g c i m cur ps w hg hcs htk hm h64 hnc hcm hbg
end Go.Proofs.YthdjpmiohfaphaaGreatDoor.reg
