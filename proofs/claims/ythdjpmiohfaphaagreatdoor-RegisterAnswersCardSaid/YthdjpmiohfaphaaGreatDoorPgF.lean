/- The walk of slices.Insert (of one, in the middle) at lists of people. Condition: at most 64 people. -/
import Derived.Test.YthdjpmiohfaphaaGreatDoorPgE
import Derived.Deep.DeepMust
import Derived.Lib.JoinLaws
namespace Go.Proofs.YthdjpmiohfaphaaGreatDoor.reg
open Go.RowKit lex aggs kit net deck slk

theorem szPn : (Tryz.prog.info? 27).map (·.size) = some 5 := by kernel_rfl
theorem szof (w : World) : (Go.sizeOf 27).run Tryz.prog w = .ok 5 w := by kernel_rfl
theorem over_no (w : World) (q g o : Nat) (lb cb : Nat) (A B : Array Value) (TA TB : Nat) (hne : q ≠ g) (hq : w.heap[q]? = some (.cells A TA (0, 0))) (hg : w.heap[g]? = some (.cells B TB (0, 0))) (hB : B.size ≠ 0) :
    (callFunc 51 #[.slice (some ⟨q, 0, none⟩) 1 1, .slice (some ⟨g, o, none⟩) lb cb]).run Tryz.prog w = .ok (.value (.bool false)) w := by
  have hsa : w.shape? q = some (TA, A.size) := by simp [World.shape?, hq]
  have hsb : w.shape? g = some (TB, B.size) := by simp [World.shape?, hg]
  rw [run_callFunc_extern Tryz.func51 (by kernel_rfl) (by kernel_rfl) (by kernel_rfl) (e := Extern.SlicesOverlaps.overlaps #[23, 23] #[4]) (by kernel_rfl),
    Lib.run_overlaps_apart w 23 4 27 Tryz.underlying23 5 szof ⟨q, 0, none⟩ ⟨g, o, none⟩ 1 1 lb cb hne TA TB A.size B.size hsa hsb hB (cell_at hq 0).2 (cell_at hq A.size).2]
  rfl
set_option maxRecDepth 100000 in
set_option maxHeartbeats 4000000 in
theorem insert_shift (base q g c i n : Nat) (cur : Array Value) (ps : List Pn) (p : Pn) (w : World) (hg : w.heap[g]? = some (.cells cur 27 (0, 0))) (hcs : cur.size = c * 5) (htk : cur.toList.take (n * 5) = flat encPn ps) (hn : ps.length = n) (hi : i < n) (h64 : n ≤ 64) (hroom : n + 1 ≤ c) (hcm : c ≤ maxLen) (hbg : base ≤ g) (hqg : q ≠ g)
    (hq : w.heap[q]? = some (.cells #[.string p.nm, .int .i64 p.co, .int .i64 p.sk, .int .i64 p.fr, .int .i64 p.un] 27 (0, 0))) :
    Calls Tryz.prog 34 #[.slice (some ⟨g, 0, none⟩) n c, .int .i64 i, .slice (some ⟨q, 0, none⟩) 1 1] w (InsPost base i (.slice (some ⟨g, 0, none⟩) n c) ps p w) := by
  have HOV := Lib.hid (fun lb cb => over_no w q g ((i + 1) * 5) lb cb _ _ _ _ hqg hq hg (by rw [hcs]; omega))
  have hov := HOV.out
  unfold maxLen at hcm
  have HG := Lib.hid hg
  have HQ := Lib.hid hq
  have HC := Lib.hid hcs
  have HT := Lib.hid htk
  have HN := Lib.hid hn
  have z1 : ¬ ((i : Int) = (n : Int)) := by omega
  have hb2 : ¬ (c = i + 1) := by omega
  have hb4 : ¬ (c = i) := by omega
  have hw1 : IntKind.i64.wrap ((i : Int) + 1) = (i : Int) + 1 := by rw [IntKind.wrap_i64]; omega
  have hb1 : (0 : Int) ≤ (i : Int) + 1 := by omega
  have htn : ((i : Int) + 1).toNat = i + 1 := by omega
  have hin : i ≤ n := by omega
  have hb3 : (i : Int) ≤ (n : Int) + 1 := by omega
  have mixed : Tryz.prog.follows .mixedOrders = true := by kernel_rfl
  clear hg hq hcs htk hn HOV
  go_enter Tryz.func34, Tryz.ntmps34
  go_wp2_with (simp only [hov])
  have hsrc1 : ∀ j v, ((flat encPn ps).drop (i * 5))[j]? = some v → w.drew.cell? ((⟨g, i * 5, none⟩ : Addr).add j) = some v := fun j v hj => by
    rw [Go.WideShapes.add_plain]
    rw [← HT.out, List.getElem?_drop, List.getElem?_take] at hj
    split at hj
    · exact (cell_at HG.out (i * 5 + j)).1.trans (by simpa using hj)
    · cases hj
  have SR := Lib.hid hsrc1
  have hFl : (flat encPn ps).length = n * 5 := by rw [flat_length encPn_len, HN.out]
  have hdl : ((flat encPn ps).drop (i * 5)).length = (n - i) * 5 := by rw [List.length_drop, hFl, Nat.sub_mul]
  have FL := Lib.hid hFl
  have DL := Lib.hid hdl
  clear hsrc1 hFl hdl
  go_region_law_o (refine step_copy_k (by rfl) (.tmp 73) (.tmp 76) 23 23 (by rfl) 27 Tryz.underlying23 5 szPn g ((i + 1) * 5) (n + 1 - (i + 1)) (c - (i + 1)) ⟨g, i * 5, none⟩ (n + 1 - i) (c - i) (by simp [Act.eval, Act.put]) (by simp [Act.eval, Act.put]) cur 27 HG.out ((flat encPn ps).drop (i * 5)) (n - i) (by simp only [Nat.min_def]; split <;> omega) DL.out SR.out (by rw [DL.out, HC.out, Nat.sub_mul]; omega) (fun v hv => flat_oneCell encPn_one _ v (List.mem_of_mem_drop hv)) ?_; intro w1 h1 g1)
  have G1 : Hid (w.grownBy w1 (some g)) := ⟨g1.os, g1.tape, g1.output, g1.size, g1.block⟩
  have HQ1 := Lib.hid ((g1.block q (lt_of_block HQ.out) (by simpa using hqg)).trans HQ.out)
  have HQN : Hid (∀ j u, (encPn p)[j]? = some u → w1.cell? ((⟨q, 0, none⟩ : Addr).add j) = some u) := fun j u hu => by
    rw [Go.WideShapes.add_plain, Nat.zero_add, (cell_at HQ1.out j).1]
    simpa [encPn] using hu
  obtain ⟨L1, hL1⟩ : ∃ L1, cur.toList.take ((i + 1) * 5) ++ (flat encPn ps).drop (i * 5) ++ cur.toList.drop ((i + 1) * 5 + ((flat encPn ps).drop (i * 5)).length) = L1 := ⟨_, rfl⟩
  rw [hL1] at h1
  have LS : L1.length = c * 5 := by
    rw [← hL1, List.length_append, List.length_append, List.length_take, List.length_drop, List.length_drop, Array.length_toList, HC.out, FL.out]
    have : (i + 1) * 5 ≤ n * 5 := Nat.mul_le_mul_right 5 hi
    have : (n + 1) * 5 ≤ c * 5 := Nat.mul_le_mul_right 5 hroom
    omega
  have HL1 := Lib.hid hL1
  have HLS := Lib.hid LS
  clear g1 hL1 LS hov
  go_wp2_with (refine wpList_copy_k rfl (.tmp 80) (.tmp 81) 23 23 rfl 27 Tryz.underlying23 5 szPn g (i * 5) (n + 1 - i) (c - i) ⟨q, 0, none⟩ 1 1 rfl rfl L1.toArray 27 h1.out (encPn p) 1 (by simp only [Nat.min_def]; split <;> omega) rfl HQN.out (by rw [List.size_toArray, HLS.out]; show i * 5 + 5 ≤ c * 5; omega) (encPn_one p) ?_; intro w2 h2 g2)
  have G2 := Lib.hid (G1.out.andThen g2 (fun j hj => by cases hj; exact .inr rfl))
  have A2 : Hid (AggsAt 27 5 encPn w2 base (.slice (some ⟨g, 0, none⟩) (n + 1) c) (ps.take i ++ p :: ps.drop i)) := by
    show w2.ownsRow _ _ 5 _ _ _
    rw [ins_len HN.out hin, flat_ins]
    refine ⟨?_, .inr ⟨g, c, _, rfl, hbg, h2.out, hroom, by unfold maxLen; exact hcm, ?_, ?_⟩⟩
    · rw [← flat_ins, flat_length encPn_len, ins_len HN.out hin]
    · rw [List.size_toArray]
      simp only [List.length_append, List.length_take, List.length_drop]
      rw [HLS.out]
      show min (i * 5) (c * 5) + 5 + (c * 5 - (i * 5 + 5)) = c * 5
      have : (n + 1) * 5 ≤ c * 5 := Nat.mul_le_mul_right 5 hroom
      omega
    · rw [← HL1.out]
      exact list_shift cur.toList (flat encPn ps) (encPn p) i n 5 HT.out FL.out rfl hin (by rw [Array.length_toList, HC.out]; exact Nat.mul_le_mul_right 5 hroom)
  clear g2 h1 h2
  go_wp2
  go_ret
  exact ⟨_, rfl, A2.out, G2.out⟩
set_option maxRecDepth 100000 in
set_option maxHeartbeats 4000000 in
theorem insert_grow (base q g i n : Nat) (ps : List Pn) (p : Pn) (cur : Array Value) (w : World) (hg : w.heap[g]? = some (.cells cur 27 (0, 0))) (hcs : cur.size = n * 5) (htk : cur.toList.take (n * 5) = flat encPn ps) (hn : ps.length = n) (hi : i < n) (h64 : n ≤ 64) (hb : base ≤ w.heap.size)
    (hq : w.heap[q]? = some (.cells #[.string p.nm, .int .i64 p.co, .int .i64 p.sk, .int .i64 p.fr, .int .i64 p.un] 27 (0, 0))) :
    Calls Tryz.prog 34 #[.slice (some ⟨g, 0, none⟩) n n, .int .i64 i, .slice (some ⟨q, 0, none⟩) 1 1] w (InsPost base i (.slice (some ⟨g, 0, none⟩) n n) ps p w) := by
  obtain ⟨i0, hi0, hz0, hzs, hzb⟩ := info_parts infoPn
  have hgl := lt_of_block hg
  have hql := lt_of_block hq
  obtain ⟨F, hF⟩ : ∃ F, flat encPn ps = F := ⟨_, rfl⟩
  have hFl : F.length = n * 5 := by rw [← hF, flat_length encPn_len, hn]
  rw [hF] at htk
  have hcell : ∀ j v, F[j]? = some v → w.cell? ⟨g, j, none⟩ = some v := fun j v hj => by
    rw [← htk, List.getElem?_take] at hj
    split at hj
    · exact (cell_at hg j).1.trans (by simpa using hj)
    · cases hj
  have hTl : (F.take (i * 5)).length = i * 5 := by
    rw [List.length_take, hFl]
    have : i * 5 ≤ n * 5 := Nat.mul_le_mul_right 5 (Nat.le_of_lt hi)
    omega
  have hold : (Builtin.firstCells i0.size i (.slice (some ⟨g, 0, none⟩) i n)).run Tryz.prog w.drew = .ok (F.take (i * 5)).toArray w.drew := by
    rw [hzs]
    exact run_firstCells_some w.drew 5 i ⟨g, 0, none⟩ i n (F.take (i * 5)) hTl (fun j v hj => by
      rw [Go.WideShapes.add_plain, Nat.zero_add]
      rw [List.getElem?_take] at hj
      split at hj
      · exact hcell j v hj
      · cases hj)
  have hkk : (n : Int) + 1 - (i : Int) = ((n + 1 - i : Nat) : Int) := by omega
  have hik : i + (n + 1 - i) = n + 1 := by omega
  obtain ⟨GC, hGC⟩ : ∃ G, G = grownCap w (n + 1) n 27 := ⟨_, rfl⟩
  obtain ⟨ROW, hROW⟩ : ∃ ROW : Array Value, ROW = (F.take (i * 5)).toArray ++ Builtin.zeroCells (Value.agg #[.string ⟨#[]⟩, .int .i64 0, .int .i64 0, .int .i64 0, .int .i64 0]).cells (n + 1 - i) ++ Builtin.zeroCells (Value.agg #[.string ⟨#[]⟩, .int .i64 0, .int .i64 0, .int .i64 0, .int .i64 0]).cells (GC - (n + 1)) := ⟨_, rfl⟩
  have hrz : ∀ ty, (Builtin.append_ #[23, 3] ty #[.slice (some ⟨g, 0, none⟩) i n, .int .i64 ((n : Int) + 1 - (i : Int))]).run Tryz.prog w = .ok (.slice (some ⟨w.heap.size, 0, none⟩) (n + 1) GC) (w.drew.alloc (.cells ROW 27)) := fun ty => by
    have h := Lib.run_append_grow_zeros w 23 3 ty 27 i0 _ .i64 .i64 Tryz.underlying23 Tryz.underlying3 hi0 hz0 (some ⟨g, 0, none⟩) i n (F.take (i * 5)) hold (n + 1 - i) (by omega) (by omega) (by omega) (by omega) (by rw [hzb]; omega) (by rw [hzb, hik]; exact growslice_fits (by omega) (by omega))
    rw [hik] at h
    rw [hkk, hROW, hGC]
    exact h
  have hGn : n + 1 ≤ GC := by rw [hGC]; exact grownCap_ge w _ _ _
  have hGm : GC ≤ maxLen := by rw [hGC]; exact grownCap_le_maxLen w _ _ _ (by unfold maxLen; omega)
  have hRs : ROW.size = GC * 5 := by
    rw [hROW, Array.size_append, Array.size_append, size_zeroCells, size_zeroCells, List.size_toArray, hTl]
    show i * 5 + (n + 1 - i) * 5 + (GC - (n + 1)) * 5 = GC * 5
    omega
  have hRt : ROW.toList.take (i * 5) = F.take (i * 5) := by
    rw [hROW, Array.toList_append, Array.toList_append, List.append_assoc, List.take_left' hTl]
  have hR0 := heap_alloc_new w.drew (.cells ROW 27)
  have bx := below_box w.drew (.cells ROW 27)
  obtain ⟨x, hx⟩ : ∃ x, w.heap.size = x := ⟨_, rfl⟩
  obtain ⟨W1, hW1⟩ : ∃ W, w.drew.alloc (.cells ROW 27) = W := ⟨_, rfl⟩
  rw [hW1] at hrz hR0 bx
  rw [show w.drew.heap.size = x from hx] at hR0 bx
  rw [hx] at hrz hb hgl hql
  have R0 := Lib.hid hR0
  have hsz : x ≤ W1.heap.size := by rw [← hx]; exact bx.size
  have hgx : g ≠ x := by omega
  have hqx : q ≠ x := by omega
  have CG : Hid (∀ W, W1.grownBy W (some x) → ∀ j v, F[j]? = some v → W.cell? ⟨g, j, none⟩ = some v) := fun W gb j v hj =>
    (World.cell?_of_block (a := ⟨g, j, none⟩) (gb.block g (by omega) (by simpa using hgx))).trans ((bx.cell (p := ⟨g, j, none⟩) hgl).trans (hcell j v hj))
  have CQ : Hid (∀ j u, (encPn p)[j]? = some u → W1.cell? ((⟨q, 0, none⟩ : Addr).add j) = some u) := fun j u hu => by
    rw [Go.WideShapes.add_plain, Nat.zero_add, bx.cell (p := ⟨q, j, none⟩) hql]
    exact (cell_at hq j).1.trans (by simpa [encPn] using hu)
  have GW1 : Hid (w.grownBy W1 (some g)) := ⟨bx.os, bx.tape, bx.output, by rw [hx]; exact hsz, fun k hk _ => bx.block k (by omega)⟩
  have HFl := Lib.hid hFl
  have HRs := Lib.hid hRs
  have HRt := Lib.hid hRt
  have HN := Lib.hid hn
  have HF := Lib.hid hF
  have HGm := Lib.hid hGm
  unfold maxLen at hGm
  have z1 : ¬ ((i : Int) = (n : Int)) := by omega
  have hb2 : ¬ (GC = i + 1) := by omega
  have hb4 : ¬ (GC = i) := by omega
  have hb5 : ¬ (n = i) := by omega
  have hw1 : IntKind.i64.wrap ((i : Int) + 1) = (i : Int) + 1 := by rw [IntKind.wrap_i64]; omega
  have hb1 : (0 : Int) ≤ (i : Int) + 1 := by omega
  have htn : ((i : Int) + 1).toNat = i + 1 := by omega
  have hin : i ≤ n := by omega
  have hb3 : (i : Int) ≤ (n : Int) + 1 := by omega
  have mixed : Tryz.prog.follows .mixedOrders = true := by kernel_rfl
  clear hsz hold hFl hF htk hcell hTl hkk hik hGC hROW hRs hRt hR0 hg hq hcs hn hgl hql bx
  go_enter Tryz.func34, Tryz.ntmps34
  go_wp2_with (first
    | (at_builtin; refine Lib.wpList_append_run _ rfl _ _ _ _ rfl _ _ rfl rfl _ _ (hrz _) ?_)
    | (refine wpList_copy_k rfl (.tmp 43) (.tmp 44) 23 23 rfl 27 Tryz.underlying23 5 szPn x (i * 5) (n + 1 - i) (GC - i) ⟨q, 0, none⟩ 1 1 rfl rfl ROW 27 R0.out (encPn p) 1 (by simp only [Nat.min_def]; split <;> omega) rfl CQ.out (by rw [HRs.out]; show i * 5 + 5 ≤ GC * 5; omega) (encPn_one p) ?_; intro w2 h2 g2))
  have H2 := Lib.hid h2.out
  have GX2 := Lib.hid g2
  obtain ⟨L1, hL1⟩ : ∃ L1, ROW.toList.take (i * 5) ++ encPn p ++ ROW.toList.drop (i * 5 + (encPn p).length) = L1 := ⟨_, rfl⟩
  have LS : L1.length = GC * 5 := by
    rw [← hL1]
    simp only [List.length_append, List.length_take, List.length_drop, Array.length_toList]
    rw [HRs.out]
    show min (i * 5) (GC * 5) + 5 + (GC * 5 - (i * 5 + 5)) = GC * 5
    omega
  have HL1 := Lib.hid hL1
  have HLS := Lib.hid LS
  have H3 : Hid (w2.heap[x]? = some (.cells L1.toArray 27 (0, 0))) := by show _ = _; rw [← hL1]; exact H2.out
  have hsrc1 : ∀ j v, (F.drop (i * 5))[j]? = some v → w2.drew.cell? ((⟨g, i * 5, none⟩ : Addr).add j) = some v := fun j v hj => by
    rw [Go.WideShapes.add_plain]
    rw [List.getElem?_drop] at hj
    exact CG.out w2 GX2.out _ _ hj
  have SR := Lib.hid hsrc1
  have DL : Hid ((F.drop (i * 5)).length = (n - i) * 5) := by show _ = _; rw [List.length_drop, HFl.out, Nat.sub_mul]
  have ONE : Hid (∀ v ∈ F.drop (i * 5), v.oneCell' = true) := fun v hv => flat_oneCell encPn_one ps v (by rw [HF.out]; exact List.mem_of_mem_drop hv)
  clear h2 g2 H2 hL1 LS hsrc1 CQ R0
  go_region_law_o (refine step_copy_k (by rfl) (.tmp 50) (.tmp 53) 23 23 (by rfl) 27 Tryz.underlying23 5 szPn x ((i + 1) * 5) (n + 1 - (i + 1)) (GC - (i + 1)) ⟨g, i * 5, none⟩ (n - i) (n - i) (by simp [Act.eval, Act.put]) (by simp [Act.eval, Act.put]) L1.toArray 27 H3.out (F.drop (i * 5)) (n - i) (by simp only [Nat.min_def]; split <;> omega) DL.out SR.out (by rw [DL.out, List.size_toArray, HLS.out]; omega) ONE.out ?_; intro w3 h3 g3)
  have G3 : Hid (w.grownBy w3 (some g)) := (GW1.out.andThen GX2.out (fun j hj => by cases hj; exact .inl (by omega))).andThen (⟨g3.os, g3.tape, g3.output, g3.size, g3.block⟩ : w2.grownBy w3 (some x)) (fun j hj => by cases hj; exact .inl (by omega))
  have A3 : Hid (AggsAt 27 5 encPn w3 base (.slice (some ⟨x, 0, none⟩) (n + 1) GC) (ps.take i ++ p :: ps.drop i)) := by
    show w3.ownsRow _ _ 5 _ _ _
    rw [ins_len HN.out hin, flat_ins]
    refine ⟨?_, .inr ⟨x, GC, _, rfl, hb, h3.out, hGn, HGm.out, ?_, ?_⟩⟩
    · rw [← flat_ins, flat_length encPn_len, ins_len HN.out hin]
    · rw [List.size_toArray]
      simp only [List.length_append, List.length_take, List.length_drop]
      rw [HLS.out, HFl.out]
      omega
    · rw [HF.out, ← HL1.out]
      exact list_grow ROW.toList F (encPn p) i n 5 HRt.out HFl.out rfl hin (by rw [Array.length_toList, HRs.out]; exact Nat.mul_le_mul_right 5 hGn)
  clear g3 h3
  go_wp2
  go_ret
  exact ⟨_, rfl, A3.out, G3.out⟩
/-- slices.Insert of one -/
theorem insert_is (base q i : Nat) (v : Value) (ps : List Pn) (p : Pn) (w : World) (hv : AggsAt 27 5 encPn w base v ps) (h64 : ps.length ≤ 64) (hi : i ≤ ps.length) (hb : base ≤ w.heap.size) (hqv : v.ownBlock ≠ some q)
    (hq : w.heap[q]? = some (.cells #[.string p.nm, .int .i64 p.co, .int .i64 p.sk, .int .i64 p.fr, .int .i64 p.un] 27 (0, 0))) :
    Calls Tryz.prog 34 #[v, .int .i64 i, .slice (some ⟨q, 0, none⟩) 1 1] w (InsPost base i v ps p w) := by
  by_cases he : i = ps.length
  · subst he
    exact insert_end base q v ps p w hv h64 hb hq
  · rcases hv.2 with ⟨_, h0⟩ | ⟨g, c, cur, rfl, hbg, hg, hnc, hcm, hcs, htk⟩
    · omega
    · by_cases hroom : ps.length + 1 ≤ c
      · exact insert_shift base q g c i ps.length cur ps p w hg hcs htk rfl (by omega) h64 hroom hcm hbg (fun e => hqv (by rw [e]; rfl)) hq
      · obtain rfl : c = ps.length := by omega
        exact insert_grow base q g i ps.length ps p cur w hg hcs htk rfl (by omega) h64 hb hq
end Go.Proofs.YthdjpmiohfaphaaGreatDoor.reg
