/- The walk of Print. Condition: the tables hold what their texts lay. -/
import Derived.Test.YtdgllaiejhnjmaaDoorMdC
import Derived.Test.YtdgllaiejhnjmaaDoorMdP
namespace Go.Proofs.YtdgllaiejhnjmaaDoor.mod
open Go.RowKit lex net aggs kit strs

/-- the text of lines -/
def tx (W : List (List (List UInt8))) : List UInt8 := textOf (W.map fun ws => Lib.join ws [32])
theorem tx_snoc (W : List (List (List UInt8))) (ws : List (List UInt8)) : tx (W ++ [ws]) = tx W ++ (Lib.join ws [32] ++ [10]) := by
  unfold tx; rw [List.map_append, List.map_cons, List.map_nil, textOf_snoc]
theorem printT_tx (ns : List Nd) (ds : List Dv) : printT ns ds = tx (printW ns ds) := rfl
theorem line_size {ws : List (List UInt8)} (h : Ln ws) : (bs (Lib.join ws [32] ++ [10])).size ≤ 133 := by
  have h3 := join_length ws
  have h4 := wsum_le h.2
  have h5 := h.1
  rw [bs_size, List.length_append]; simp; omega
theorem tx_line {W : List (List (List UInt8))} {ws : List (List UInt8)} {t ln : ByteArray} (h : t = bs (tx W)) (k : bs (Lib.join ws [32] ++ [10]) = ln) : t ++ ln = bs (tx (W ++ [ws])) := by
  rw [h, ← k, tx_snoc, bs_append]
/-- what is known of a node of a valid network -/
theorem nd_ok {ns : List Nd} {ds : List Dv} (hc : chk ns ds = 0) (x : Nd) (hx : x ∈ ns) : (0 ≤ x.cu ∧ x.cu ≤ 1048576) ∧ (0 ≤ x.co ∧ x.co ≤ 7) ∧ x.nm.size ≤ 1000000 := by
  obtain ⟨i, hi, rfl⟩ := List.mem_iff_getElem.1 hx
  have h0 := nds_ok hc i hi
  have hw := (nd_name hc i hi).2.2
  unfold ndsE at h0
  rw [List.getD_eq_getElem?_getD, List.getElem?_eq_getElem hi] at h0
  obtain ⟨-, -, p1, p2, p3, p4⟩ := ndE_parts h0
  have hz : (ns[i]).nm.data.toList.length = (ns[i]).nm.size := by simp
  exact ⟨⟨p1, p2⟩, ⟨p3, p4⟩, by omega⟩
theorem dv_ok {ns : List Nd} {ds : List Dv} (hc : chk ns ds = 0) (d : Dv) (hd : d ∈ ds) : (1 ≤ d.ki ∧ d.ki ≤ 6) ∧ (0 ≤ d.a ∧ d.a < ns.length) ∧ (d.ki ≤ 3 → 0 ≤ d.b ∧ d.b < ns.length) ∧ (0 ≤ d.co ∧ d.co ≤ 7) ∧ d.nm.size ≤ 1000000 ∧ (¬ d.ki ≤ 3 → d.b = -1) := by
  obtain ⟨i, hi, rfl⟩ := List.mem_iff_getElem.1 hd
  have h0 := chk_dv hc i hi
  have hits := chk_its hc i hi
  unfold dvsE at h0
  rw [List.getD_eq_getElem?_getD, List.getElem?_eq_getElem hi] at h0 hits
  obtain ⟨p0, -, -, p1, -, p3, p4⟩ := dvE_parts h0
  obtain ⟨⟨a0, a1⟩, hb⟩ := itsB_parts hits
  have hw := (name_wd p0).2.2
  refine ⟨p1, ⟨a0, a1⟩, fun h3 => ?_, ⟨p3, p4⟩, ?_, fun h3 => ?_⟩
  · rcases hb with ⟨_, b0, b1, _⟩ | ⟨hb, _⟩
    · exact ⟨b0, b1⟩
    · exact absurd ⟨p1.1, h3⟩ hb
  · have : (ds[i]).nm.data.toList.length = (ds[i]).nm.size := by simp
    have hw' : (ds[i]).nm.data.toList.length ≤ 21 := hw
    omega
  · rcases hb with ⟨hb, _⟩ | ⟨_, hb⟩
    · exact absurd hb.2 h3
    · exact hb
set_option maxRecDepth 100000 in
set_option maxHeartbeats 4000000 in
theorem print_good (a b : Option Addr) (N c M d : Nat) (ns : List Nd) (ds : List Dv) (w : World) (H : MTabs w) (h : NetIn w a b N c M d ns ds) (hc : chk ns ds = 0) :
    Calls Tryd.prog 15 #[.agg #[.slice a N c, .slice b M d]] w fun e w' => e = .returned (.tuple #[.string (bs (printT ns ds)), .int .i64 0]) ∧ Below w.heap.size w w' := by
  have bx := below_box w (.cells #[.slice a N c, .slice b M d] 26)
  have NT := Lib.hid (NtAt.new w (.slice a N c) (.slice b M d) 26)
  have HN := Lib.hid (fun wr (bel : Below w.heap.size w wr) => h.below bel)
  have HH := Lib.hid (fun wr (bel : Below w.heap.size w wr) => H.below bel)
  have CK := Lib.hid (check_is a b N c M d ns ds 0 _ (H.below bx).tabs.cls (h.below bx) hc)
  have hs := chk_small hc
  rw [h.nlen, h.dlen] at hs
  obtain ⟨hN, hM⟩ : N ≤ 32 ∧ M ≤ 64 := by omega
  have LN := Lib.hid h.nlen
  have LD := Lib.hid h.dlen
  have NO := Lib.hid (nd_ok hc)
  have DO := Lib.hid (dv_ok hc)
  have NL := Lib.hid (fun i hi => nd_ln hc i hi)
  have DL := Lib.hid (fun i hi => dv_ln hc i hi)
  have BX := Lib.hid bx
  clear h H hs bx
  go_enter Tryd.func15, Tryd.ntmps15
  go_wp2_with fail
  refine CK.out.mono ?_; rintro e w1 ⟨rfl, b1⟩
  have B1 : Hid (Below (w.heap.size + 1) (w.alloc (.cells #[.slice a N c, .slice b M d] 26)) w1) := by show Below _ _ _; simpa using b1
  clear b1
  obtain ⟨q1, q2, q3⟩ := NT.out.below B1.out (Nat.lt_succ_self _)
  go_wp2_with fail
  go_loopw [5, 18] (fun tv iv wr => ∃ (j : Nat) (t : ByteArray), j ≤ N ∧ iv = .int .i64 j ∧ tv = .string t ∧ t.size ≤ 133 * j ∧ Hid (t = bs (tx ((ns.take j).map ndW))) ∧ Hid (Below (w.heap.size + 1) (w.alloc (.cells #[.slice a N c, .slice b M d] 26)) wr)) (fun _ i _ => N - (intOf i).toNat)
  case atStart => exact ⟨0, _, Nat.zero_le _, rfl, rfl, by simp [ByteArray.size], rfl, B1⟩
  case round =>
    clear q1 q2 q3 B1
    obtain ⟨j, t, hj, rfl, rfl, htz, ht, bel⟩ := hrel
    obtain ⟨q1, q2, q3⟩ := NT.out.below bel.out (Nat.lt_succ_self _)
    have BL := Lib.hid (BX.out.trans (bel.out.mono (by omega)))
    by_cases hjn : j < N
    · have hjl : j < ns.length := by rw [LN.out]; exact hjn
      obtain ⟨g, o, rfl, hg, hcs⟩ := (HN.out _ BL.out).nin.some (by omega)
      obtain ⟨c0, c1, c2⟩ := cells_nd hcs j hjl
      obtain ⟨p1, p2, p3⟩ := NO.out _ (List.getElem_mem hjl)
      have hln := line_size (NL.out j hjl)
      have hnx := Lib.hid (fun ln (e : bs (Lib.join (ndW ns[j]) [32] ++ [10]) = ln) => (show t ++ ln = bs (tx ((ns.take (j + 1)).map ndW)) from by
        rw [List.take_succ_eq_append_getElem hjl, List.map_append]; exact tx_line ht.out e))
      have KL : ∀ o', Hid (Calls Tryd.prog 28 #[.agg #[.string ns[j].nm, .int .i64 ns[j].cu, .int .i64 ns[j].co]] (wr.alloc o') _) := fun o' => nodeLine_is ns[j] (wr.alloc o') ((HH.out _ BL.out).below (below_box _ _)).tabs ⟨by omega, by omega⟩ ⟨by omega, by omega⟩ p3
      obtain ⟨ln, hle⟩ : ∃ z, bs (Lib.join (ndW ns[j]) [32] ++ [10]) = z := ⟨_, rfl⟩
      rw [hle] at hln KL
      have HX := Lib.hid (hnx.out ln hle)
      generalize ns[j] = x at *
      obtain ⟨nm, cu, co⟩ := x
      dsimp only at c0 c1 c2 KL p1 p2 p3
      clear hle hnx ht p1 p2 p3 hcs hg hjl
      go_wp2_with fail
      refine (KL _).out.mono ?_; rintro e w2 ⟨rfl, b2⟩
      have B2 : Hid (Below (w.heap.size + 1) _ w2) := (bel.out.alloc (by have := bel.out.size; simpa using this) _).trans (b2.mono (by have := bel.out.size; simp at this ⊢; omega))
      clear b2
      go_wp2
      go_roundw
      case rel => exact ⟨j + 1, _, by omega, by go_num, rfl, by rw [ByteArray.size_append]; omega, HX, B2⟩
      case measure => simp [intOf]; omega
    · obtain rfl : N = j := by omega
      have ht2 : Hid (t = bs (tx (ns.map ndW ++ (ds.take 0).map (dvW ns)))) := by
        show _ = _
        rw [ht.out, ← LN.out, List.take_length, List.take_zero, List.map_nil, List.append_nil]
      clear ht
      go_wp2_with fail
      go_loopw [5, 30] (fun tv iv wr => ∃ (j : Nat) (t : ByteArray), j ≤ M ∧ iv = .int .i64 j ∧ tv = .string t ∧ t.size ≤ 133 * N + 133 * j ∧ Hid (t = bs (tx (ns.map ndW ++ (ds.take j).map (dvW ns)))) ∧ Hid (Below (w.heap.size + 1) (w.alloc (.cells #[.slice a N c, .slice b M d] 26)) wr)) (fun _ i _ => M - (intOf i).toNat)
      case atStart => exact ⟨0, _, Nat.zero_le _, rfl, rfl, by omega, ht2, bel⟩
      case round =>
        clear q1 q2 q3 ht2 bel BL htz
        obtain ⟨i, u, hi, rfl, rfl, htz, ht, bel⟩ := hrel
        obtain ⟨q1, q2, q3⟩ := NT.out.below bel.out (Nat.lt_succ_self _)
        have BL := Lib.hid (BX.out.trans (bel.out.mono (by omega)))
        by_cases him : i < M
        · have hil : i < ds.length := by rw [LD.out]; exact him
          have hni := HN.out _ BL.out
          obtain ⟨g, o, rfl, hg, hcs⟩ := hni.din.some (by omega)
          obtain ⟨c0, c1, c2, c3, c4⟩ := cells_dv hcs i hil
          obtain ⟨p1, p2, p3, p4, p5, p6⟩ := DO.out _ (List.getElem_mem hil)
          have hln := line_size (DL.out i hil)
          have hnx := Lib.hid (fun ln (e : bs (Lib.join (dvW ns ds[i]) [32] ++ [10]) = ln) => (show u ++ ln = bs (tx (ns.map ndW ++ (ds.take (i + 1)).map (dvW ns))) from by
            rw [List.take_succ_eq_append_getElem hil, List.map_append, ← List.append_assoc]; exact tx_line ht.out e))
          have KL : ∀ o', Hid (Calls Tryd.prog 29 #[.agg #[.slice a N c, .slice (some ⟨g, o, none⟩) M d], dvV ds[i]] (wr.alloc o') _) := fun o' =>
            deviceLine_is a _ N c M d ns ds[i] (wr.alloc o') ((HH.out _ BL.out).below (below_box _ _)) (hni.nin.below (below_box _ _)) LN.out p1.1 p1.2 p2.1 (by have := p2.2; have := LN.out; omega) (fun h => by have := p3 h; have := LN.out; omega) ⟨by omega, by omega⟩ p5 (fun x hx => (NO.out x hx).2.2) (by omega)
          obtain ⟨ln, hle⟩ : ∃ z, bs (Lib.join (dvW ns ds[i]) [32] ++ [10]) = z := ⟨_, rfl⟩
          rw [hle] at hln KL
          have HX := Lib.hid (hnx.out ln hle)
          generalize ds[i] = x at *
          obtain ⟨nm, ki, da, db, co⟩ := x
          unfold dvV at KL
          dsimp only at c0 c1 c2 c3 c4 KL
          clear hle hnx ht p1 p2 p3 p4 p5 p6 hcs hg hil hni
          go_wp2_with fail
          refine (KL _).out.mono ?_; rintro e w2 ⟨rfl, b2⟩
          have B2 : Hid (Below (w.heap.size + 1) _ w2) := (bel.out.alloc (by have := bel.out.size; simpa using this) _).trans (b2.mono (by have := bel.out.size; simp at this ⊢; omega))
          clear b2
          go_wp2
          go_roundw
          case rel => exact ⟨i + 1, _, by omega, by go_num, rfl, by rw [ByteArray.size_append]; omega, HX, B2⟩
          case measure => simp [intOf]; omega
        · obtain rfl : M = i := by omega
          have HT : Hid (u = bs (printT ns ds)) := by
            show _ = _
            rw [ht.out, ← LD.out, List.take_length]; rfl
          clear ht
          go_wp2
          go_ret2
          exact ⟨by rw [← HT.out]; rfl, BL.out⟩
set_option maxRecDepth 100000 in
set_option maxHeartbeats 1000000 in
theorem print_bad (a b : Option Addr) (N c M d : Nat) (ns : List Nd) (ds : List Dv) (r : Int) (w : World) (H : MTabs w) (h : NetIn w a b N c M d ns ds) (hc : chk ns ds = r) (hr : r ≠ 0) :
    Calls Tryd.prog 15 #[.agg #[.slice a N c, .slice b M d]] w fun e w' => e = .returned (.tuple #[.string (bs []), .int .i64 r]) ∧ Below w.heap.size w w' := by
  have bx := below_box w (.cells #[.slice a N c, .slice b M d] 26)
  have CK := Lib.hid (check_is a b N c M d ns ds r _ (H.below bx).tabs.cls (h.below bx) hc)
  have T := bne_t hr
  have BX := Lib.hid bx
  clear h H bx hr hc
  go_enter Tryd.func15, Tryd.ntmps15
  go_wp2_with fail
  refine CK.out.mono ?_; rintro e w1 ⟨rfl, b1⟩
  have B1 : Hid (Below w.heap.size w w1) := BX.out.trans (b1.mono BX.out.size)
  clear b1
  go_wp2
  go_ret2
  exact ⟨rfl, B1.out⟩
/-- WHAT PRINT SAYS -/
def prT (ns : List Nd) (ds : List Dv) : List UInt8 := if chk ns ds = 0 then printT ns ds else []
theorem print_is (a b : Option Addr) (N c M d : Nat) (ns : List Nd) (ds : List Dv) (w : World) (H : MTabs w) (h : NetIn w a b N c M d ns ds) :
    Calls Tryd.prog 15 #[.agg #[.slice a N c, .slice b M d]] w fun e w' => e = .returned (.tuple #[.string (bs (prT ns ds)), .int .i64 (chk ns ds)]) ∧ Below w.heap.size w w' := by
  unfold prT
  by_cases hc : chk ns ds = 0
  · rw [if_pos hc, hc]; exact print_good a b N c M d ns ds w H h hc
  · rw [if_neg hc]; exact print_bad a b N c M d ns ds _ w H h rfl hc
end Go.Proofs.YtdgllaiejhnjmaaDoor.mod
