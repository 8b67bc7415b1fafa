/- The walk of addDevice: a device's line, behind its first word. Condition: the table 'classes' holds what its text lays. -/
import Derived.Test.YtdgllaiejhnjmaaDoorMdG
namespace Go.Proofs.YtdgllaiejhnjmaaDoor.mod
open Go.RowKit lex net aggs kit strs deck

/-- what a device's line says behind its first word -/
def devE (ns : List Nd) (k : Int) (ws : List (List UInt8)) : Int :=
  if k = 0 then 2
  else if k ≤ 3 then (if ws.length = 5 ∧ at_ ws 3 = wCom ∧ numB (at_ ws 4) lim = true then (if fnd (nmsN ns) (bs (at_ ws 1)) = -1 ∨ fnd (nmsN ns) (bs (at_ ws 2)) = -1 then 3 else 0) else 2)
  else (if ws.length = 4 ∧ at_ ws 2 = wCom ∧ numB (at_ ws 3) lim = true then (if fnd (nmsN ns) (bs (at_ ws 1)) = -1 then 3 else 0) else 2)
def devY (ns : List Nd) (k : Int) (ws : List (List UInt8)) : Dv :=
  if k ≤ 3 then ⟨bs (at_ ws 0), k, fnd (nmsN ns) (bs (at_ ws 1)), fnd (nmsN ns) (bs (at_ ws 2)), numV (at_ ws 4) lim⟩ else ⟨bs (at_ ws 0), k, fnd (nmsN ns) (bs (at_ ws 1)), -1, numV (at_ ws 3) lim⟩
theorem arr2 {W : World} {b T : Nat} {u0 u1 : Value} (h : W.heap[b]? = some (.cells #[u0, u1] T (0, 0))) : W.cell? ⟨b, 0, none⟩ = some u0 ∧ W.cell? ⟨b, 1, none⟩ = some u1 ∧ W.frozen? ⟨b, 0, none⟩ = false ∧ W.frozen? ⟨b, 1, none⟩ = false :=
  ⟨(cell_at h 0).1, (cell_at h 1).1, (cell_at h 0).2, (cell_at h 1).2⟩
def DAd (x g o n c nb k : Nat) (vd : Value) (s0 : ByteArray) (r1 r2 co : Int) (ds : List Dv) : Nat → Value → World → Prop
  | 0, v, _ => v = .pointer (some ⟨x, 0, none⟩)
  | 1, v, _ => v = .pointer (some ⟨x, 0, none⟩)
  | 2, v, _ => v = .pointer (some ⟨x, 0, none⟩)
  | 3, v, _ => v = .pointer (some ⟨x, 1, none⟩)
  | 4, v, _ => v = vd
  | 5, v, _ => v = .slice (some ⟨g, o, none⟩) n c
  | 6, v, _ => v = .pointer (some ⟨g, o, none⟩)
  | 7, v, _ => v = .string s0
  | 8, v, _ => v = .int .i64 (k : Int)
  | 9, v, _ => v = .pointer (some ⟨nb, 0, none⟩)
  | 10, v, _ => v = .int .i64 r1
  | 11, v, _ => v = .pointer (some ⟨nb, 1, none⟩)
  | 12, v, _ => v = .int .i64 r2
  | 13, v, _ => v = .int .i64 co
  | 14, v, _ => v = .agg #[.string s0, .int .i64 (k : Int), .int .i64 r1, .int .i64 r2, .int .i64 co]
  | 15, v, W => ∃ B, v = .slice (some ⟨B, 0, none⟩) 1 1 ∧ W.heap[B]? = some (.cells #[.string s0, .int .i64 (k : Int), .int .i64 r1, .int .i64 r2, .int .i64 co] 47 (0, 0)) ∧ x + 1 ≤ B ∧ vd.ownBlock ≠ some B
  | 16, v, W => AggsAt 47 5 encDv W (x + 1) v (ds ++ [⟨s0, (k : Int), r1, r2, co⟩])
  | 17, v, _ => v = .pointer (some ⟨x, 0, none⟩)
  | 18, v, _ => v = .pointer (some ⟨x, 1, none⟩)
  | _, _, _ => True
theorem DAd.kept {x g o n c nb k : Nat} {vd : Value} {s0 : ByteArray} {r1 r2 co : Int} {ds : List Dv} {W W' : World} {row : Option Nat} (hg : W.grownBy W' row) (hr : ∀ k, row = some k → k < x + 1) : ∀ j v, DAd x g o n c nb k vd s0 r1 r2 co ds j v W → DAd x g o n c nb k vd s0 r1 r2 co ds j v W'
  | 0, _, h | 1, _, h | 2, _, h | 3, _, h | 4, _, h | 5, _, h | 6, _, h | 7, _, h | 8, _, h | 9, _, h | 10, _, h | 11, _, h | 12, _, h | 13, _, h | 14, _, h | 17, _, h | 18, _, h | 19, _, h | _ + 20, _, h => h
  | 15, _, ⟨B, h1, h2, h3, h4⟩ => ⟨B, h1, by rw [hg.block B (lt_of_block h2) (fun e => by have := hr B e.symm; omega)]; exact h2, h3, h4⟩
  | 16, _, h => AggsAt.grown (show AggsAt _ _ _ _ _ _ _ from h) hg hr
theorem DAd.kept2 {x g o n c nb k : Nat} {vd : Value} {s0 : ByteArray} {r1 r2 co : Int} {ds : List Dv} {W W' : World} (hg : W.grownBy W' vd.ownBlock) : ∀ j v, j ≠ 16 → DAd x g o n c nb k vd s0 r1 r2 co ds j v W → DAd x g o n c nb k vd s0 r1 r2 co ds j v W'
  | 0, _, _, h | 1, _, _, h | 2, _, _, h | 3, _, _, h | 4, _, _, h | 5, _, _, h | 6, _, _, h | 7, _, _, h | 8, _, _, h | 9, _, _, h | 10, _, _, h | 11, _, _, h | 12, _, _, h | 13, _, _, h | 14, _, _, h | 17, _, _, h | 18, _, _, h | 19, _, _, h | _ + 20, _, _, h => h
  | 15, _, _, ⟨B, h1, h2, h3, h4⟩ => ⟨B, h1, by rw [hg.block B (lt_of_block h2) (fun e => h4 e.symm)]; exact h2, h3, h4⟩
  | 16, _, hj, _ => absurd rfl hj
set_option maxRecDepth 100000 in
set_option maxHeartbeats 8000000 in
theorem addDevice_is (w : World) (x g o n c k : Nat) (C : Array Value) (vn vd : Value) (ns : List Nd) (ds : List Dv) (ws : List (List UInt8)) (h : PB w x vn vd ns ds) (H : HasClasses w) (hw : WIn w g o ws) (hn : ws.length = n) (hc : n ≤ c) (hgx : g ≠ x) (hgl : g < w.heap.size) (hC : w.heap[g]? = some (.cells C 9 (0, 0))) (hz : ∀ s ∈ ws, s.length ≤ 200000) (hl : ns.length ≤ 200000) (hld : ds.length ≤ 200000) (hnl : n ≤ 200000) (hk6 : k ≤ 6) :
    Calls Tryd.prog 46 #[.pointer (some ⟨x, 0, none⟩), .int .i64 (k : Int), .slice (some ⟨g, o, none⟩) n c] w fun e w' => e = .returned (.int .i64 (devE ns k ws)) ∧ Below x w w' ∧ (devE ns k ws = 0 → ∃ v, PB w' x vn v ns (ds ++ [devY ns k ws])) := by
  have XL := Lib.hid h.lt
  obtain ⟨va, vc, rfl⟩ : ∃ a c, vn = .slice a ns.length c := by obtain ⟨a, c, e, -⟩ := h.rn.length encNd_len; exact ⟨a, c, e⟩
  obtain ⟨i0, hi, hz0, hz1, hz2⟩ := info_parts infoDv
  by_cases hk0' : k = 0
  · subst hk0'
    have hE : devE ns ((0 : Nat) : Int) ws = 2 := rfl
    rw [hE]
    have JO := Lib.hid (fun W => joins_is ((0 : Nat) : Int) false (by decide) W)
    clear hE hw hn hz h H hgx hgl hC
    go_enter Tryd.func46, Tryd.ntmps46
    go_wp2_with fail
    refine (JO.out _).mono ?_; rintro e1 w1 ⟨rfl, rfl⟩
    go_wp2
    go_ret
    exact ⟨rfl, Below.refl _ _, fun h => by cases h⟩
  · have hk0 : ¬ (k : Int) = 0 := by omega
    by_cases hj : k ≤ 3
    · by_cases h5 : n = 5
      · subst h5
        obtain ⟨s0, s1, s2, s3, s4, rfl⟩ : ∃ s0 s1 s2 s3 s4, ws = [s0, s1, s2, s3, s4] := by
          match ws, hn with
          | [s0, s1, s2, s3, s4], _ => exact ⟨_, _, _, _, _, rfl⟩
        have c0 := hw.get 0 s0 rfl
        have c1 := hw.get 1 s1 rfl
        have c2 := hw.get 2 s2 rfl
        have c3 := hw.get 3 s3 rfl
        have c4 := hw.get 4 s4 rfl
        rw [Nat.add_zero] at c0
        have zn : (bs s4).size ≤ maxLen := by have := hz s4 (by simp); rw [bs_size]; unfold maxLen; omega
        obtain ⟨b2, hb2⟩ : ∃ b, (decide (bs s3 = bs wCom) && numB (bs s4).data.toList lim) = b := ⟨_, rfl⟩
        obtain ⟨co, hco⟩ : ∃ v, (if bs s3 = bs wCom ∧ numB (bs s4).data.toList lim = true then numV (bs s4).data.toList lim else 0) = v := ⟨_, rfl⟩
        have N2 := Lib.hid (fun n' c' (hn' : 2 ≤ n') => numberBehind_is (bs wCom) (bs s3) (bs s4) g (o + 3) n' c' co b2 w H hn' c3 c4 zn hco hb2)
        rw [bs_data] at hb2 hco
        have i3 : bs s3 = bs wCom ↔ s3 = wCom := ⟨bs_inj, fun e => by rw [e]⟩
        obtain ⟨r1, hr1⟩ : ∃ z, fnd (nmsN ns) (bs s1) = z := ⟨_, rfl⟩
        obtain ⟨r2, hr2⟩ : ∃ z, fnd (nmsN ns) (bs s2) = z := ⟨_, rfl⟩
        have HS2 := Lib.hid hr2
        have HS1 := Lib.hid hr1
        have hE : devE ns k [s0, s1, s2, s3, s4] = if b2 = true then (if r1 = -1 ∨ r2 = -1 then 3 else 0) else 2 := by
          rw [← hb2]
          unfold devE
          rw [if_neg hk0, if_pos (by omega)]
          by_cases q : s3 = wCom ∧ numB s4 lim = true
          · exact (if_pos ⟨rfl, q.1, q.2⟩).trans ((show (if fnd (nmsN ns) (bs s1) = -1 ∨ fnd (nmsN ns) (bs s2) = -1 then (3 : Int) else 0) = _ from by rw [hr1, hr2]).trans (if_pos (by rw [decide_eq_true (i3.2 q.1), q.2]; rfl)).symm)
          · exact (if_neg (fun h => q ⟨h.2.1, h.2.2⟩)).trans (if_neg (fun h => q (by rw [Bool.and_eq_true, decide_eq_true_eq] at h; exact ⟨i3.1 h.1, h.2⟩))).symm
        have hY : b2 = true → devY ns k [s0, s1, s2, s3, s4] = ⟨bs s0, k, r1, r2, co⟩ := fun k2 => by
          rw [← hb2, Bool.and_eq_true, decide_eq_true_eq] at k2
          rw [if_pos k2] at hco
          unfold devY
          rw [if_pos (by omega), ← hco, ← hr1, ← hr2]; rfl
        rw [hE]
        have C0 := Lib.hid c0
        have HNI := Lib.hid (fun W (b : Below w.heap.size w W) => (h.below b).rn)
        have HP := Lib.hid (fun W (b : Below w.heap.size w W) => h.below b)
        have GL := Lib.hid hgl
        have GX := Lib.hid hgx
        have GO := Lib.hid (fun W (b : Below w.heap.size w W) => show W.heap[g]? = some (.cells C 9 (0, 0)) from by rw [b.block g hgl]; exact hC)
        have hCt : (9 : Nat) ≠ 51 ∧ (9 : Nat) ≠ 47 ∧ (88 : Nat) ≠ 51 ∧ (88 : Nat) ≠ 47 := by decide
        have NL := Lib.hid hld
        have JO := Lib.hid (fun W => joins_is (k : Int) true (decide_eq_true (by omega)) W)
        have hkz : ((k : Int) == 0) = false := by rw [beq_eq_false_iff_ne]; omega
        clear hE hb2 hco i3 c0 c3 c4 zn hw hz h H hgx hgl hC
        cases b2
        · rw [if_neg (fun h => by cases h)]
          go_enter Tryd.func46, Tryd.ntmps46
          go_wp2_with fail
          refine (JO.out _).mono ?_; rintro e1 w1 ⟨rfl, rfl⟩
          go_wp2_with fail
          refine (N2.out _ _ (by omega)).mono ?_; rintro e1 w1 ⟨rfl, rfl⟩
          go_wp2
          go_ret
          exact ⟨rfl, Below.refl _ _, fun h => by cases h⟩
        · rw [if_pos rfl]
          obtain ⟨E, hE2⟩ : ∃ E : Int, (if r1 = -1 ∨ r2 = -1 then (3 : Int) else 0) = E := ⟨_, rfl⟩
          rw [hE2]
          have HE2 := Lib.hid hE2
          have HY := Lib.hid (hY rfl)
          clear hY hE2
          go_enter Tryd.func46, Tryd.ntmps46
          go_wp2_with fail
          refine (JO.out _).mono ?_; rintro e1 w1 ⟨rfl, rfl⟩
          go_wp2_with fail
          refine (N2.out _ _ (by omega)).mono ?_; rintro e1 w1 ⟨rfl, rfl⟩
          go_wp2_with fail
          go_loopw [41] (fun iv wr => ∃ (j : Nat) (a0 a1 : Int), iv = .int .i64 j ∧ Hid (Below w.heap.size w wr) ∧ Hid (wr.heap[w.heap.size]? = some (.cells #[.int .i64 a0, .int .i64 a1] 88 (0, 0))) ∧ (j = 0 ∧ a0 = -1 ∧ a1 = -1 ∨ j = 1 ∧ a0 = r1 ∧ a1 = -1 ∧ r1 ≠ -1 ∨ j = 2 ∧ a0 = r1 ∧ a1 = r2 ∧ ¬ (r1 = -1 ∨ r2 = -1))) (fun iv _ => 2 - (intOf iv).toNat)
          case atStart => exact ⟨0, -1, -1, rfl, below_box w _, heap_alloc_new w _, .inl ⟨rfl, rfl, rfl⟩⟩
          case round =>
            obtain ⟨j, a0, a1, rfl, bel, har, hjj⟩ := hrel
            have PW := Lib.hid (HP.out wr bel.out)
            obtain ⟨p0, p1, p2, p3⟩ := PW.out.cells
            obtain ⟨k0, k1, k2, k3⟩ := arr2 har.out
            have w1 : wr.cell? ⟨g, o + 1, none⟩ = some (.string (bs s1)) := (bel.out.cell (p := ⟨g, o + 1, none⟩) GL.out).trans c1
            have w2 : wr.cell? ⟨g, o + 1 + 1, none⟩ = some (.string (bs s2)) := (bel.out.cell (p := ⟨g, o + 2, none⟩) GL.out).trans c2
            obtain ⟨va', vc', ev, hri⟩ := AggsAt.rin PW.out.rn encNd_len
            obtain ⟨rfl, rfl⟩ : va = va' ∧ vc = vc' := by injection ev with e1 _ e3; exact ⟨e1, e3⟩
            have RIN := Lib.hid hri
            clear hri ev
            rcases hjj with ⟨rfl, rfl, rfl⟩ | hjj
            · have NN := Lib.hid (nodeNamed_is va ns.length vc (bs s1) ns r1 wr rfl RIN.out (by unfold maxLen; omega) HS1.out)
              by_cases e1 : r1 = -1
              · have T1 : (r1 == -1) = true := by rw [beq_iff_eq]; exact e1
                have HE3 : Hid (E = 3) := by show _ = _; rw [← HE2.out, if_pos (.inl e1)]
                clear e1
                go_wp2_with fail
                refine NN.out.mono ?_; rintro e1 w2 ⟨rfl, b2⟩
                have B2 := Lib.hid (bel.out.trans (b2.mono bel.out.size))
                obtain ⟨m0, m1, m2, m3⟩ := arr2 ((b2.block _ (lt_of_block har.out)).trans har.out)
                clear b2 p0 p1 p2 p3 k0 k1 k2 k3
                go_wp2
                go_ret
                exact ⟨by rw [HE3.out]; rfl, (B2.out.setCell (p := ⟨w.heap.size, 0, none⟩) (Nat.le_refl _) _).mono (Nat.le_of_lt XL.out), fun h => by rw [HE3.out] at h; cases h⟩
              · have T1 : (r1 == -1) = false := beq_eq_false_iff_ne.2 e1
                have E1 := Lib.hid e1
                clear e1
                go_wp2_with fail
                refine NN.out.mono ?_; rintro e1 w2 ⟨rfl, b2⟩
                have B2 := Lib.hid (bel.out.trans (b2.mono bel.out.size))
                have AR := Lib.hid ((b2.block _ (lt_of_block har.out)).trans har.out)
                obtain ⟨m0, m1, m2, m3⟩ := arr2 AR.out
                clear b2 p0 p1 p2 p3 k0 k1 k2 k3
                go_wp2
                go_roundw
                case rel => exact ⟨1, r1, -1, rfl, B2.out.setCell (p := ⟨w.heap.size, 0, none⟩) (Nat.le_refl _) _, set_at (i := 0) (.int .i64 r1) AR.out, .inr (.inl ⟨rfl, rfl, rfl, E1.out⟩)⟩
                case measure => simp [intOf]
            rcases hjj with ⟨rfl, rfl, rfl, q1⟩ | hjj
            · have NN := Lib.hid (nodeNamed_is va ns.length vc (bs s2) ns r2 wr rfl RIN.out (by unfold maxLen; omega) HS2.out)
              have Q1 := Lib.hid q1
              clear q1
              by_cases e1 : r2 = -1
              · have T1 : (r2 == -1) = true := by rw [beq_iff_eq]; exact e1
                have HE3 : Hid (E = 3) := by show _ = _; rw [← HE2.out, if_pos (.inr e1)]
                clear e1
                go_wp2_with fail
                refine NN.out.mono ?_; rintro e1 w3 ⟨rfl, b2⟩
                have B2 := Lib.hid (bel.out.trans (b2.mono bel.out.size))
                obtain ⟨m0, m1, m2, m3⟩ := arr2 ((b2.block _ (lt_of_block har.out)).trans har.out)
                clear b2 p0 p1 p2 p3 k0 k1 k2 k3
                go_wp2
                go_ret
                exact ⟨by rw [HE3.out]; rfl, (B2.out.setCell (p := ⟨w.heap.size, 1, none⟩) (Nat.le_refl _) _).mono (Nat.le_of_lt XL.out), fun h => by rw [HE3.out] at h; cases h⟩
              · have T1 : (r2 == -1) = false := beq_eq_false_iff_ne.2 e1
                have E1 := Lib.hid e1
                clear e1
                go_wp2_with fail
                refine NN.out.mono ?_; rintro e1 w3 ⟨rfl, b2⟩
                have B2 := Lib.hid (bel.out.trans (b2.mono bel.out.size))
                have AR := Lib.hid ((b2.block _ (lt_of_block har.out)).trans har.out)
                obtain ⟨m0, m1, m2, m3⟩ := arr2 AR.out
                clear b2 p0 p1 p2 p3 k0 k1 k2 k3
                go_wp2
                go_roundw
                case rel => exact ⟨2, a0, r2, rfl, B2.out.setCell (p := ⟨w.heap.size, 1, none⟩) (Nat.le_refl _) _, set_at (i := 1) (.int .i64 r2) AR.out, .inr (.inr ⟨rfl, rfl, rfl, fun h => h.elim Q1.out E1.out⟩)⟩
                case measure => simp [intOf]
            · obtain ⟨rfl, rfl, rfl, HE⟩ := hjj
              have HE0 : Hid (E = 0) := by show _ = _; rw [← HE2.out, if_neg HE]
              have BW3 := bel
              have GL3 : Hid (g < wr.heap.size) := Nat.lt_of_lt_of_le GL.out bel.out.size
              have GV3 : Hid (vd.ownBlock ≠ some g) := (PW.out.own (GO.out wr bel.out) hCt.1 hCt.2.1).2
              have C03 : Hid (wr.cell? ⟨g, o, none⟩ = some (.string (bs s0))) := (bel.out.cell (p := ⟨g, o, none⟩) GL.out).trans C0.out
              have BL3 : Hid (w.heap.size < wr.heap.size) := lt_of_block har.out
              have BX3 : Hid (w.heap.size ≠ x) := Nat.ne_of_gt XL.out
              have BV3 : Hid (vd.ownBlock ≠ some w.heap.size) := (PW.out.own har.out hCt.2.2.1 hCt.2.2.2).2
              have A03 := Lib.hid (arr2 har.out)
              have XL3 : Hid (x < wr.heap.size) := PW.out.lt
              have HS0 : Hid (SD wr x (.slice va ns.length vc) vd ns ds ⟨bs s0, (k : Int), a0, a1, co⟩ 16 19 (fun _ => false) wr.drew) := SD.start PW.out
              clear HE p0 p1 p2 p3 k0 k1 k2 k3 w1 har w2
              go_wp2_with fail
              refine inv.wp_region_inv2 (SD wr x (.slice va ns.length vc) vd ns ds ⟨bs s0, (k : Int), a0, a1, co⟩ 16 19) (DAd x g o 5 c w.heap.size k vd (bs s0) a0 a1 co ds) (by kernel_rfl) (by kernel_rfl) HS0.out ?steps ?rest
              case steps =>
                refine ⟨fun vs W done hS hD hno hold hcl hme K hK => ?_, fun vs W done hS hD hno hold hcl hme K hK => ?_, fun vs W done hS hD hno hold hcl hme K hK => ?_, fun vs W done hS hD hno hold hcl hme K hK => ?_, fun vs W done hS hD hno hold hcl hme K hK => ?_, fun vs W done hS hD hno hold hcl hme K hK => ?_, fun vs W done hS hD hno hold hcl hme K hK => ?_, fun vs W done hS hD hno hold hcl hme K hK => ?_, fun vs W done hS hD hno hold hcl hme K hK => ?_, fun vs W done hS hD hno hold hcl hme K hK => ?_, fun vs W done hS hD hno hold hcl hme K hK => ?_, fun vs W done hS hD hno hold hcl hme K hK => ?_, fun vs W done hS hD hno hold hcl hme K hK => ?_, fun vs W done hS hD hno hold hcl hme K hK => ?_, fun vs W done hS hD hno hold hcl hme K hK => ?_, fun vs W done hS hD hno hold hcl hme K hK => ?_, fun vs W done hS hD hno hold hcl hme K hK => ?_, fun vs W done hS hD hno hold hcl hme K hK => ?_, fun vs W done hS hD hno hold hcl hme K hK => ?_, fun vs W done hS hD hno hold hcl hme K hK => ?_, trivial⟩
                · clear hold; clear hcl; simp only [inv.dstsL, inv.putT, Nat.reduceAdd, List.set_cons_zero, List.set_cons_succ]
                  go_simp
                  exact hK _ _ _ (by simp only [inv.dstsL, inv.putT, Nat.reduceAdd, List.set_cons_zero, List.set_cons_succ]; (try rfl)) (hS.mark 0 (by decide) (by decide)) (rfl) (fun _ _ _ _ h => h)
                · clear hold; clear hcl; simp only [inv.dstsL, inv.putT, Nat.reduceAdd, List.set_cons_zero, List.set_cons_succ]
                  go_simp
                  exact hK _ _ _ (by simp only [inv.dstsL, inv.putT, Nat.reduceAdd, List.set_cons_zero, List.set_cons_succ]; (try rfl)) (hS.mark 1 (by decide) (by decide)) (rfl) (fun _ _ _ _ h => h)
                · clear hold; clear hcl; simp only [inv.dstsL, inv.putT, Nat.reduceAdd, List.set_cons_zero, List.set_cons_succ]
                  have h1 : (vs 1) = .pointer (some ⟨x, 0, none⟩) := hD 1 (by kernel_rfl)
                  rw [h1]
                  go_simp
                  exact hK _ _ _ (by simp only [inv.dstsL, inv.putT, Nat.reduceAdd, List.set_cons_zero, List.set_cons_succ, h1]; (try rfl)) (hS.mark 2 (by decide) (by decide)) (rfl) (fun _ _ _ _ h => h)
                · clear hold; clear hcl; simp only [inv.dstsL, inv.putT, Nat.reduceAdd, List.set_cons_zero, List.set_cons_succ]
                  have h2 : (vs 2) = .pointer (some ⟨x, 0, none⟩) := hD 2 (by kernel_rfl)
                  rw [h2]
                  go_simp
                  exact hK _ _ _ (by simp only [inv.dstsL, inv.putT, Nat.reduceAdd, List.set_cons_zero, List.set_cons_succ, h2]; (try rfl)) (hS.mark 3 (by decide) (by decide)) (rfl) (fun _ _ _ _ h => h)
                · clear hold; simp only [inv.dstsL, inv.putT, Nat.reduceAdd, List.set_cons_zero, List.set_cons_succ]
                  have h3 : (vs 3) = .pointer (some ⟨x, 1, none⟩) := hD 3 (by kernel_rfl)
                  have d16 := hno 16 (by kernel_rfl)
                  have d19 : done 19 = false := Bool.eq_false_iff.2 (fun h => by have := hcl 19 (by decide) h 16 (by kernel_rfl); rw [d16] at this; cases this)
                  obtain ⟨T, p, e, e1, -⟩ := hS.net
                  rw [e1 d19] at e
                  have c0 := (cell_at e 1).1
                  clear hcl d16 d19 e1
                  rw [h3]
                  go_simp
                  exact hK _ _ _ (by simp only [inv.dstsL, inv.putT, Nat.reduceAdd, List.set_cons_zero, List.set_cons_succ, h3]; (try rfl)) (hS.mark 4 (by decide) (by decide)) (rfl) (fun _ _ _ _ h => h)
                · clear hold; clear hcl; simp only [inv.dstsL, inv.putT, Nat.reduceAdd, List.set_cons_zero, List.set_cons_succ]
                  go_simp
                  exact hK _ _ _ (by simp only [inv.dstsL, inv.putT, Nat.reduceAdd, List.set_cons_zero, List.set_cons_succ]; (try rfl)) (hS.mark 5 (by decide) (by decide)) (rfl) (fun _ _ _ _ h => h)
                · clear hold; clear hcl; simp only [inv.dstsL, inv.putT, Nat.reduceAdd, List.set_cons_zero, List.set_cons_succ]
                  have h5 : (vs 5) = .slice (some ⟨g, o, none⟩) 5 c := hD 5 (by kernel_rfl)
                  rw [h5]
                  go_simp
                  exact hK _ _ _ (by simp only [inv.dstsL, inv.putT, Nat.reduceAdd, List.set_cons_zero, List.set_cons_succ, h5]; (try rfl)) (hS.mark 6 (by decide) (by decide)) (rfl) (fun _ _ _ _ h => h)
                · clear hold; clear hcl; simp only [inv.dstsL, inv.putT, Nat.reduceAdd, List.set_cons_zero, List.set_cons_succ]
                  have h6 : (vs 6) = .pointer (some ⟨g, o, none⟩) := hD 6 (by kernel_rfl)
                  have c0 : W.cell? ⟨g, o, none⟩ = some (.string (bs s0)) := (World.cell?_of_block (a := ⟨g, o, none⟩) (hS.keep g GL3.out GX.out GV3.out)).trans C03.out
                  rw [h6]
                  go_simp
                  exact hK _ _ _ (by simp only [inv.dstsL, inv.putT, Nat.reduceAdd, List.set_cons_zero, List.set_cons_succ, h6]; (try rfl)) (hS.mark 7 (by decide) (by decide)) (rfl) (fun _ _ _ _ h => h)
                · clear hold; clear hcl; simp only [inv.dstsL, inv.putT, Nat.reduceAdd, List.set_cons_zero, List.set_cons_succ]
                  go_simp
                  exact hK _ _ _ (by simp only [inv.dstsL, inv.putT, Nat.reduceAdd, List.set_cons_zero, List.set_cons_succ]; (try rfl)) (hS.mark 8 (by decide) (by decide)) (rfl) (fun _ _ _ _ h => h)
                · clear hold; clear hcl; simp only [inv.dstsL, inv.putT, Nat.reduceAdd, List.set_cons_zero, List.set_cons_succ]
                  go_simp
                  exact hK _ _ _ (by simp only [inv.dstsL, inv.putT, Nat.reduceAdd, List.set_cons_zero, List.set_cons_succ]; (try rfl)) (hS.mark 9 (by decide) (by decide)) (rfl) (fun _ _ _ _ h => h)
                · clear hold; clear hcl; simp only [inv.dstsL, inv.putT, Nat.reduceAdd, List.set_cons_zero, List.set_cons_succ]
                  have h9 : (vs 9) = .pointer (some ⟨w.heap.size, 0, none⟩) := hD 9 (by kernel_rfl)
                  have c0 : W.cell? ⟨w.heap.size, 0, none⟩ = some (.int .i64 a0) := (World.cell?_of_block (a := ⟨w.heap.size, 0, none⟩) (hS.keep w.heap.size BL3.out BX3.out BV3.out)).trans A03.out.1
                  rw [h9]
                  go_simp
                  exact hK _ _ _ (by simp only [inv.dstsL, inv.putT, Nat.reduceAdd, List.set_cons_zero, List.set_cons_succ, h9]; (try rfl)) (hS.mark 10 (by decide) (by decide)) (rfl) (fun _ _ _ _ h => h)
                · clear hold; clear hcl; simp only [inv.dstsL, inv.putT, Nat.reduceAdd, List.set_cons_zero, List.set_cons_succ]
                  go_simp
                  exact hK _ _ _ (by simp only [inv.dstsL, inv.putT, Nat.reduceAdd, List.set_cons_zero, List.set_cons_succ]; (try rfl)) (hS.mark 11 (by decide) (by decide)) (rfl) (fun _ _ _ _ h => h)
                · clear hold; clear hcl; simp only [inv.dstsL, inv.putT, Nat.reduceAdd, List.set_cons_zero, List.set_cons_succ]
                  have h11 : (vs 11) = .pointer (some ⟨w.heap.size, 1, none⟩) := hD 11 (by kernel_rfl)
                  have c0 : W.cell? ⟨w.heap.size, 1, none⟩ = some (.int .i64 a1) := (World.cell?_of_block (a := ⟨w.heap.size, 1, none⟩) (hS.keep w.heap.size BL3.out BX3.out BV3.out)).trans A03.out.2.1
                  rw [h11]
                  go_simp
                  exact hK _ _ _ (by simp only [inv.dstsL, inv.putT, Nat.reduceAdd, List.set_cons_zero, List.set_cons_succ, h11]; (try rfl)) (hS.mark 12 (by decide) (by decide)) (rfl) (fun _ _ _ _ h => h)
                · clear hold; clear hcl; simp only [inv.dstsL, inv.putT, Nat.reduceAdd, List.set_cons_zero, List.set_cons_succ]
                  go_simp
                  exact hK _ _ _ (by simp only [inv.dstsL, inv.putT, Nat.reduceAdd, List.set_cons_zero, List.set_cons_succ]; (try rfl)) (hS.mark 13 (by decide) (by decide)) (rfl) (fun _ _ _ _ h => h)
                · clear hold; clear hcl; simp only [inv.dstsL, inv.putT, Nat.reduceAdd, List.set_cons_zero, List.set_cons_succ]
                  have h7 : (vs 7) = .string (bs s0) := hD 7 (by kernel_rfl)
                  have h8 : (vs 8) = .int .i64 (k : Int) := hD 8 (by kernel_rfl)
                  have h10 : (vs 10) = .int .i64 a0 := hD 10 (by kernel_rfl)
                  have h12 : (vs 12) = .int .i64 a1 := hD 12 (by kernel_rfl)
                  have h13 : (vs 13) = .int .i64 co := hD 13 (by kernel_rfl)
                  rw [h7, h8, h10, h12, h13]
                  go_simp
                  exact hK _ _ _ (by simp only [inv.dstsL, inv.putT, Nat.reduceAdd, List.set_cons_zero, List.set_cons_succ, h7, h8, h10, h12, h13]; (try rfl)) (hS.mark 14 (by decide) (by decide)) (rfl) (fun _ _ _ _ h => h)
                · clear hold; clear hcl; simp only [inv.dstsL, inv.putT, Nat.reduceAdd, List.set_cons_zero, List.set_cons_succ]
                  have h14 : (vs 14) = .agg #[.string (bs s0), .int .i64 (k : Int), .int .i64 a0, .int .i64 a1, .int .i64 co] := hD 14 (by kernel_rfl)
                  have d16 := hno 16 (by kernel_rfl)
                  have hr := hS.row d16
                  have hxs : x < W.heap.size := by obtain ⟨T, p, e, -⟩ := hS.net; exact lt_of_block e
                  rw [h14]
                  go_simp
                  exact hK _ _ _ (by simp only [inv.dstsL, inv.putT, Nat.reduceAdd, List.set_cons_zero, List.set_cons_succ, h14]; (try rfl)) ((hS.alloc _).mark 15 (by decide) (by decide)) (⟨W.heap.size, rfl, heap_alloc_new _ _, hxs, fun k => by have := (World.ownsRow.lt hr _ k).2; omega⟩) (fun j v _ _ => (DAd.kept (grown_alloc (gb_refl W none) _) (fun k hk => by cases hk)) j v)
                · clear hold; clear hcl; simp only [inv.dstsL, inv.putT, Nat.reduceAdd, List.set_cons_zero, List.set_cons_succ]
                  have h4 : (vs 4) = vd := hD 4 (by kernel_rfl)
                  have h15 : ∃ B, (vs 15) = .slice (some ⟨B, 0, none⟩) 1 1 ∧ W.heap[B]? = some (.cells #[.string (bs s0), .int .i64 (k : Int), .int .i64 a0, .int .i64 a1, .int .i64 co] 47 (0, 0)) ∧ x + 1 ≤ B ∧ vd.ownBlock ≠ some B := hD 15 (by kernel_rfl)
                  obtain ⟨B, h15, h15b, h15c, h15d⟩ := h15
                  have d19 := hno 19 (by kernel_rfl)
                  refine step_append_own (by rfl) (.tmp 63) (.tmp 74) 24 (by rfl) (x + 1) 47 i0 _ 5 48 Tryd.underlying24 hi hz0 hz1 hz2 rfl (by decide) vd ds.length (flat encDv ds) (by exact h4) (hS.row hme) ⟨B, 0, none⟩ 1 1 (encDv ⟨bs s0, (k : Int), a0, a1, co⟩) (by exact h15) rfl (news_of h15b rfl) (encDv_one _) (by unfold maxLen; have := NL.out; omega) (by have := NL.out; omega) (by have := lt_of_block h15b; omega) ?_
                  intro v' w' hown hg _
                  exact hK _ _ _ (by simp only [inv.dstsL, inv.putT, Nat.reduceAdd, List.set_cons_zero, List.set_cons_succ]; (try rfl)) (hS.app hme d19 (by decide) hg) (AggsAt.push hown) (fun j v hji _ h => DAd.kept2 hg j v hji h)
                · clear hold; clear hcl; simp only [inv.dstsL, inv.putT, Nat.reduceAdd, List.set_cons_zero, List.set_cons_succ]
                  have h0 : (vs 0) = .pointer (some ⟨x, 0, none⟩) := hD 0 (by kernel_rfl)
                  rw [h0]
                  go_simp
                  exact hK _ _ _ (by simp only [inv.dstsL, inv.putT, Nat.reduceAdd, List.set_cons_zero, List.set_cons_succ, h0]; (try rfl)) (hS.mark 17 (by decide) (by decide)) (rfl) (fun _ _ _ _ h => h)
                · clear hold; clear hcl; simp only [inv.dstsL, inv.putT, Nat.reduceAdd, List.set_cons_zero, List.set_cons_succ]
                  have h17 : (vs 17) = .pointer (some ⟨x, 0, none⟩) := hD 17 (by kernel_rfl)
                  rw [h17]
                  go_simp
                  exact hK _ _ _ (by simp only [inv.dstsL, inv.putT, Nat.reduceAdd, List.set_cons_zero, List.set_cons_succ, h17]; (try rfl)) (hS.mark 18 (by decide) (by decide)) (rfl) (fun _ _ _ _ h => h)
                · clear hold; clear hcl; simp only [inv.dstsL, inv.putT, Nat.reduceAdd, List.set_cons_zero, List.set_cons_succ]
                  have h16 : AggsAt 47 5 encDv W (x + 1) (vs 16) (ds ++ [⟨(bs s0), (k : Int), a0, a1, co⟩]) := hD 16 (by kernel_rfl)
                  have h18 : (vs 18) = .pointer (some ⟨x, 1, none⟩) := hD 18 (by kernel_rfl)
                  obtain ⟨T, p, e, -⟩ := hS.net
                  obtain ⟨c0, f0⟩ := cell_at e 1
                  obtain ⟨a9, c9, h102⟩ : ∃ a9 c9, vs 16 = .slice a9 (ds.length + 1) c9 := by obtain ⟨a9, c9, e, -⟩ := AggsAt.length h16 encDv_len; exact ⟨a9, c9, by rw [e, List.length_append]; rfl⟩
                  rw [h102] at h16
                  rw [h18, h102]
                  go_simp
                  exact hK undef _ _ (by simp only [inv.dstsL, inv.putT, Nat.reduceAdd, List.set_cons_zero, List.set_cons_succ, h18, h102]; (try rfl)) (hS.store XL3.out h16) (by first | rfl | trivial) (fun j v _ _ => (DAd.kept (gb_set _ (gb_refl W (some x))) (fun k hk => by cases hk; omega)) j v)
              case rest =>
                intro vs W done hdone hS hD
                obtain ⟨BL, vE, PE⟩ := hS.fin (hdone 19 (by decide))
                have BL := Lib.hid ((BW3.out.mono (Nat.le_of_lt XL.out)).trans BL)
                have PE := Lib.hid PE
                simp only [inv.dstsL, inv.putT, Nat.reduceAdd, List.set_cons_zero, List.set_cons_succ]
                generalize vs 0 = y0, vs 1 = y1, vs 2 = y2, vs 3 = y3, vs 4 = y4, vs 5 = y5, vs 6 = y6, vs 7 = y7, vs 8 = y8, vs 9 = y9, vs 10 = y10, vs 11 = y11, vs 12 = y12, vs 13 = y13, vs 14 = y14, vs 15 = y15, vs 16 = y16, vs 17 = y17, vs 18 = y18 at *
                clear hD hdone hS
                go_wp2
                go_ret
                exact ⟨by rw [HE0.out]; rfl, BL.out, fun _ => ⟨vE, by rw [HY.out]; exact PE.out⟩⟩
      · have hE : devE ns k ws = 2 := by unfold devE; rw [if_neg hk0, if_pos (by omega), if_neg (fun h => h5 (hn ▸ h.1))]
        rw [hE]
        have JO := Lib.hid (fun W => joins_is (k : Int) true (decide_eq_true (by omega)) W)
        have hkz : ((k : Int) == 0) = false := by rw [beq_eq_false_iff_ne]; omega
        have T : ((n : Int) != 5) = true := by rw [bne_iff_ne]; omega
        clear hE hw hn hz h H hgx hgl hC
        go_enter Tryd.func46, Tryd.ntmps46
        go_wp2_with fail
        refine (JO.out _).mono ?_; rintro e1 w1 ⟨rfl, rfl⟩
        go_wp2
        go_ret
        exact ⟨rfl, Below.refl _ _, fun h => by cases h⟩
    · by_cases h5 : n = 4
      · subst h5
        obtain ⟨s0, s1, s2, s3, rfl⟩ : ∃ s0 s1 s2 s3, ws = [s0, s1, s2, s3] := by
          match ws, hn with
          | [s0, s1, s2, s3], _ => exact ⟨_, _, _, _, rfl⟩
        have c0 := hw.get 0 s0 rfl
        have c1 := hw.get 1 s1 rfl
        have c2 := hw.get 2 s2 rfl
        have c3 := hw.get 3 s3 rfl
        rw [Nat.add_zero] at c0
        have zn : (bs s3).size ≤ maxLen := by have := hz s3 (by simp); rw [bs_size]; unfold maxLen; omega
        obtain ⟨b2, hb2⟩ : ∃ b, (decide (bs s2 = bs wCom) && numB (bs s3).data.toList lim) = b := ⟨_, rfl⟩
        obtain ⟨co, hco⟩ : ∃ v, (if bs s2 = bs wCom ∧ numB (bs s3).data.toList lim = true then numV (bs s3).data.toList lim else 0) = v := ⟨_, rfl⟩
        have N2 := Lib.hid (fun n' c' (hn' : 2 ≤ n') => numberBehind_is (bs wCom) (bs s2) (bs s3) g (o + 2) n' c' co b2 w H hn' c2 c3 zn hco hb2)
        rw [bs_data] at hb2 hco
        have i3 : bs s2 = bs wCom ↔ s2 = wCom := ⟨bs_inj, fun e => by rw [e]⟩
        obtain ⟨r1, hr1⟩ : ∃ z, fnd (nmsN ns) (bs s1) = z := ⟨_, rfl⟩
        have HS1 := Lib.hid hr1
        have hE : devE ns k [s0, s1, s2, s3] = if b2 = true then (if r1 = -1 then 3 else 0) else 2 := by
          rw [← hb2]
          unfold devE
          rw [if_neg hk0, if_neg (by omega)]
          by_cases q : s2 = wCom ∧ numB s3 lim = true
          · exact (if_pos ⟨rfl, q.1, q.2⟩).trans ((show (if fnd (nmsN ns) (bs s1) = -1 then (3 : Int) else 0) = _ from by rw [hr1]).trans (if_pos (by rw [decide_eq_true (i3.2 q.1), q.2]; rfl)).symm)
          · exact (if_neg (fun h => q ⟨h.2.1, h.2.2⟩)).trans (if_neg (fun h => q (by rw [Bool.and_eq_true, decide_eq_true_eq] at h; exact ⟨i3.1 h.1, h.2⟩))).symm
        have hY : b2 = true → devY ns k [s0, s1, s2, s3] = ⟨bs s0, k, r1, -1, co⟩ := fun k2 => by
          rw [← hb2, Bool.and_eq_true, decide_eq_true_eq] at k2
          rw [if_pos k2] at hco
          unfold devY
          rw [if_neg (by omega), ← hco, ← hr1]; rfl
        rw [hE]
        have C0 := Lib.hid c0
        have HNI := Lib.hid (fun W (b : Below w.heap.size w W) => (h.below b).rn)
        have HP := Lib.hid (fun W (b : Below w.heap.size w W) => h.below b)
        have GL := Lib.hid hgl
        have GX := Lib.hid hgx
        have GO := Lib.hid (fun W (b : Below w.heap.size w W) => show W.heap[g]? = some (.cells C 9 (0, 0)) from by rw [b.block g hgl]; exact hC)
        have hCt : (9 : Nat) ≠ 51 ∧ (9 : Nat) ≠ 47 ∧ (88 : Nat) ≠ 51 ∧ (88 : Nat) ≠ 47 := by decide
        have NL := Lib.hid hld
        have JO := Lib.hid (fun W => joins_is (k : Int) false (decide_eq_false (by omega)) W)
        have hkz : ((k : Int) == 0) = false := by rw [beq_eq_false_iff_ne]; omega
        clear hE hb2 hco i3 c0 c2 c3 zn hw hz h H hgx hgl hC
        cases b2
        · rw [if_neg (fun h => by cases h)]
          go_enter Tryd.func46, Tryd.ntmps46
          go_wp2_with fail
          refine (JO.out _).mono ?_; rintro e1 w1 ⟨rfl, rfl⟩
          go_wp2_with fail
          refine (N2.out _ _ (by omega)).mono ?_; rintro e1 w1 ⟨rfl, rfl⟩
          go_wp2
          go_ret
          exact ⟨rfl, Below.refl _ _, fun h => by cases h⟩
        · rw [if_pos rfl]
          obtain ⟨E, hE2⟩ : ∃ E : Int, (if r1 = -1 then (3 : Int) else 0) = E := ⟨_, rfl⟩
          rw [hE2]
          have HE2 := Lib.hid hE2
          have HY := Lib.hid (hY rfl)
          clear hY hE2
          go_enter Tryd.func46, Tryd.ntmps46
          go_wp2_with fail
          refine (JO.out _).mono ?_; rintro e1 w1 ⟨rfl, rfl⟩
          go_wp2_with fail
          refine (N2.out _ _ (by omega)).mono ?_; rintro e1 w1 ⟨rfl, rfl⟩
          go_wp2_with fail
          go_loopw [41] (fun iv wr => ∃ (j : Nat) (a0 a1 : Int), iv = .int .i64 j ∧ Hid (Below w.heap.size w wr) ∧ Hid (wr.heap[w.heap.size]? = some (.cells #[.int .i64 a0, .int .i64 a1] 88 (0, 0))) ∧ (j = 0 ∧ a0 = -1 ∧ a1 = -1 ∨ j = 1 ∧ a0 = r1 ∧ a1 = -1 ∧ ¬ r1 = -1)) (fun iv _ => 1 - (intOf iv).toNat)
          case atStart => exact ⟨0, -1, -1, rfl, below_box w _, heap_alloc_new w _, .inl ⟨rfl, rfl, rfl⟩⟩
          case round =>
            obtain ⟨j, a0, a1, rfl, bel, har, hjj⟩ := hrel
            have PW := Lib.hid (HP.out wr bel.out)
            obtain ⟨p0, p1, p2, p3⟩ := PW.out.cells
            obtain ⟨k0, k1, k2, k3⟩ := arr2 har.out
            have w1 : wr.cell? ⟨g, o + 1, none⟩ = some (.string (bs s1)) := (bel.out.cell (p := ⟨g, o + 1, none⟩) GL.out).trans c1
            obtain ⟨va', vc', ev, hri⟩ := AggsAt.rin PW.out.rn encNd_len
            obtain ⟨rfl, rfl⟩ : va = va' ∧ vc = vc' := by injection ev with e1 _ e3; exact ⟨e1, e3⟩
            have RIN := Lib.hid hri
            clear hri ev
            rcases hjj with ⟨rfl, rfl, rfl⟩ | hjj
            · have NN := Lib.hid (nodeNamed_is va ns.length vc (bs s1) ns r1 wr rfl RIN.out (by unfold maxLen; omega) HS1.out)
              by_cases e1 : r1 = -1
              · have T1 : (r1 == -1) = true := by rw [beq_iff_eq]; exact e1
                have HE3 : Hid (E = 3) := by show _ = _; rw [← HE2.out, if_pos e1]
                clear e1
                go_wp2_with fail
                refine NN.out.mono ?_; rintro e1 w2 ⟨rfl, b2⟩
                have B2 := Lib.hid (bel.out.trans (b2.mono bel.out.size))
                obtain ⟨m0, m1, m2, m3⟩ := arr2 ((b2.block _ (lt_of_block har.out)).trans har.out)
                clear b2 p0 p1 p2 p3 k0 k1 k2 k3
                go_wp2
                go_ret
                exact ⟨by rw [HE3.out]; rfl, (B2.out.setCell (p := ⟨w.heap.size, 0, none⟩) (Nat.le_refl _) _).mono (Nat.le_of_lt XL.out), fun h => by rw [HE3.out] at h; cases h⟩
              · have T1 : (r1 == -1) = false := beq_eq_false_iff_ne.2 e1
                have E1 := Lib.hid e1
                clear e1
                go_wp2_with fail
                refine NN.out.mono ?_; rintro e1 w2 ⟨rfl, b2⟩
                have B2 := Lib.hid (bel.out.trans (b2.mono bel.out.size))
                have AR := Lib.hid ((b2.block _ (lt_of_block har.out)).trans har.out)
                obtain ⟨m0, m1, m2, m3⟩ := arr2 AR.out
                clear b2 p0 p1 p2 p3 k0 k1 k2 k3
                go_wp2
                go_roundw
                case rel => exact ⟨1, r1, -1, rfl, B2.out.setCell (p := ⟨w.heap.size, 0, none⟩) (Nat.le_refl _) _, set_at (i := 0) (.int .i64 r1) AR.out, .inr ⟨rfl, rfl, rfl, E1.out⟩⟩
                case measure => simp [intOf]
            · obtain ⟨rfl, rfl, rfl, HE⟩ := hjj
              have HE0 : Hid (E = 0) := by show _ = _; rw [← HE2.out, if_neg HE]
              have BW3 := bel
              have GL3 : Hid (g < wr.heap.size) := Nat.lt_of_lt_of_le GL.out bel.out.size
              have GV3 : Hid (vd.ownBlock ≠ some g) := (PW.out.own (GO.out wr bel.out) hCt.1 hCt.2.1).2
              have C03 : Hid (wr.cell? ⟨g, o, none⟩ = some (.string (bs s0))) := (bel.out.cell (p := ⟨g, o, none⟩) GL.out).trans C0.out
              have BL3 : Hid (w.heap.size < wr.heap.size) := lt_of_block har.out
              have BX3 : Hid (w.heap.size ≠ x) := Nat.ne_of_gt XL.out
              have BV3 : Hid (vd.ownBlock ≠ some w.heap.size) := (PW.out.own har.out hCt.2.2.1 hCt.2.2.2).2
              have A03 := Lib.hid (arr2 har.out)
              have XL3 : Hid (x < wr.heap.size) := PW.out.lt
              have HS0 : Hid (SD wr x (.slice va ns.length vc) vd ns ds ⟨bs s0, (k : Int), a0, -1, co⟩ 16 19 (fun _ => false) wr.drew) := SD.start PW.out
              clear HE p0 p1 p2 p3 k0 k1 k2 k3 w1 har
              go_wp2_with fail
              refine inv.wp_region_inv2 (SD wr x (.slice va ns.length vc) vd ns ds ⟨bs s0, (k : Int), a0, (-1), co⟩ 16 19) (DAd x g o 4 c w.heap.size k vd (bs s0) a0 (-1) co ds) (by kernel_rfl) (by kernel_rfl) HS0.out ?steps ?rest
              case steps =>
                refine ⟨fun vs W done hS hD hno hold hcl hme K hK => ?_, fun vs W done hS hD hno hold hcl hme K hK => ?_, fun vs W done hS hD hno hold hcl hme K hK => ?_, fun vs W done hS hD hno hold hcl hme K hK => ?_, fun vs W done hS hD hno hold hcl hme K hK => ?_, fun vs W done hS hD hno hold hcl hme K hK => ?_, fun vs W done hS hD hno hold hcl hme K hK => ?_, fun vs W done hS hD hno hold hcl hme K hK => ?_, fun vs W done hS hD hno hold hcl hme K hK => ?_, fun vs W done hS hD hno hold hcl hme K hK => ?_, fun vs W done hS hD hno hold hcl hme K hK => ?_, fun vs W done hS hD hno hold hcl hme K hK => ?_, fun vs W done hS hD hno hold hcl hme K hK => ?_, fun vs W done hS hD hno hold hcl hme K hK => ?_, fun vs W done hS hD hno hold hcl hme K hK => ?_, fun vs W done hS hD hno hold hcl hme K hK => ?_, fun vs W done hS hD hno hold hcl hme K hK => ?_, fun vs W done hS hD hno hold hcl hme K hK => ?_, fun vs W done hS hD hno hold hcl hme K hK => ?_, fun vs W done hS hD hno hold hcl hme K hK => ?_, trivial⟩
                · clear hold; clear hcl; simp only [inv.dstsL, inv.putT, Nat.reduceAdd, List.set_cons_zero, List.set_cons_succ]
                  go_simp
                  exact hK _ _ _ (by simp only [inv.dstsL, inv.putT, Nat.reduceAdd, List.set_cons_zero, List.set_cons_succ]; (try rfl)) (hS.mark 0 (by decide) (by decide)) (rfl) (fun _ _ _ _ h => h)
                · clear hold; clear hcl; simp only [inv.dstsL, inv.putT, Nat.reduceAdd, List.set_cons_zero, List.set_cons_succ]
                  go_simp
                  exact hK _ _ _ (by simp only [inv.dstsL, inv.putT, Nat.reduceAdd, List.set_cons_zero, List.set_cons_succ]; (try rfl)) (hS.mark 1 (by decide) (by decide)) (rfl) (fun _ _ _ _ h => h)
                · clear hold; clear hcl; simp only [inv.dstsL, inv.putT, Nat.reduceAdd, List.set_cons_zero, List.set_cons_succ]
                  have h1 : (vs 1) = .pointer (some ⟨x, 0, none⟩) := hD 1 (by kernel_rfl)
                  rw [h1]
                  go_simp
                  exact hK _ _ _ (by simp only [inv.dstsL, inv.putT, Nat.reduceAdd, List.set_cons_zero, List.set_cons_succ, h1]; (try rfl)) (hS.mark 2 (by decide) (by decide)) (rfl) (fun _ _ _ _ h => h)
                · clear hold; clear hcl; simp only [inv.dstsL, inv.putT, Nat.reduceAdd, List.set_cons_zero, List.set_cons_succ]
                  have h2 : (vs 2) = .pointer (some ⟨x, 0, none⟩) := hD 2 (by kernel_rfl)
                  rw [h2]
                  go_simp
                  exact hK _ _ _ (by simp only [inv.dstsL, inv.putT, Nat.reduceAdd, List.set_cons_zero, List.set_cons_succ, h2]; (try rfl)) (hS.mark 3 (by decide) (by decide)) (rfl) (fun _ _ _ _ h => h)
                · clear hold; simp only [inv.dstsL, inv.putT, Nat.reduceAdd, List.set_cons_zero, List.set_cons_succ]
                  have h3 : (vs 3) = .pointer (some ⟨x, 1, none⟩) := hD 3 (by kernel_rfl)
                  have d16 := hno 16 (by kernel_rfl)
                  have d19 : done 19 = false := Bool.eq_false_iff.2 (fun h => by have := hcl 19 (by decide) h 16 (by kernel_rfl); rw [d16] at this; cases this)
                  obtain ⟨T, p, e, e1, -⟩ := hS.net
                  rw [e1 d19] at e
                  have c0 := (cell_at e 1).1
                  clear hcl d16 d19 e1
                  rw [h3]
                  go_simp
                  exact hK _ _ _ (by simp only [inv.dstsL, inv.putT, Nat.reduceAdd, List.set_cons_zero, List.set_cons_succ, h3]; (try rfl)) (hS.mark 4 (by decide) (by decide)) (rfl) (fun _ _ _ _ h => h)
                · clear hold; clear hcl; simp only [inv.dstsL, inv.putT, Nat.reduceAdd, List.set_cons_zero, List.set_cons_succ]
                  go_simp
                  exact hK _ _ _ (by simp only [inv.dstsL, inv.putT, Nat.reduceAdd, List.set_cons_zero, List.set_cons_succ]; (try rfl)) (hS.mark 5 (by decide) (by decide)) (rfl) (fun _ _ _ _ h => h)
                · clear hold; clear hcl; simp only [inv.dstsL, inv.putT, Nat.reduceAdd, List.set_cons_zero, List.set_cons_succ]
                  have h5 : (vs 5) = .slice (some ⟨g, o, none⟩) 4 c := hD 5 (by kernel_rfl)
                  rw [h5]
                  go_simp
                  exact hK _ _ _ (by simp only [inv.dstsL, inv.putT, Nat.reduceAdd, List.set_cons_zero, List.set_cons_succ, h5]; (try rfl)) (hS.mark 6 (by decide) (by decide)) (rfl) (fun _ _ _ _ h => h)
                · clear hold; clear hcl; simp only [inv.dstsL, inv.putT, Nat.reduceAdd, List.set_cons_zero, List.set_cons_succ]
                  have h6 : (vs 6) = .pointer (some ⟨g, o, none⟩) := hD 6 (by kernel_rfl)
                  have c0 : W.cell? ⟨g, o, none⟩ = some (.string (bs s0)) := (World.cell?_of_block (a := ⟨g, o, none⟩) (hS.keep g GL3.out GX.out GV3.out)).trans C03.out
                  rw [h6]
                  go_simp
                  exact hK _ _ _ (by simp only [inv.dstsL, inv.putT, Nat.reduceAdd, List.set_cons_zero, List.set_cons_succ, h6]; (try rfl)) (hS.mark 7 (by decide) (by decide)) (rfl) (fun _ _ _ _ h => h)
                · clear hold; clear hcl; simp only [inv.dstsL, inv.putT, Nat.reduceAdd, List.set_cons_zero, List.set_cons_succ]
                  go_simp
                  exact hK _ _ _ (by simp only [inv.dstsL, inv.putT, Nat.reduceAdd, List.set_cons_zero, List.set_cons_succ]; (try rfl)) (hS.mark 8 (by decide) (by decide)) (rfl) (fun _ _ _ _ h => h)
                · clear hold; clear hcl; simp only [inv.dstsL, inv.putT, Nat.reduceAdd, List.set_cons_zero, List.set_cons_succ]
                  go_simp
                  exact hK _ _ _ (by simp only [inv.dstsL, inv.putT, Nat.reduceAdd, List.set_cons_zero, List.set_cons_succ]; (try rfl)) (hS.mark 9 (by decide) (by decide)) (rfl) (fun _ _ _ _ h => h)
                · clear hold; clear hcl; simp only [inv.dstsL, inv.putT, Nat.reduceAdd, List.set_cons_zero, List.set_cons_succ]
                  have h9 : (vs 9) = .pointer (some ⟨w.heap.size, 0, none⟩) := hD 9 (by kernel_rfl)
                  have c0 : W.cell? ⟨w.heap.size, 0, none⟩ = some (.int .i64 a0) := (World.cell?_of_block (a := ⟨w.heap.size, 0, none⟩) (hS.keep w.heap.size BL3.out BX3.out BV3.out)).trans A03.out.1
                  rw [h9]
                  go_simp
                  exact hK _ _ _ (by simp only [inv.dstsL, inv.putT, Nat.reduceAdd, List.set_cons_zero, List.set_cons_succ, h9]; (try rfl)) (hS.mark 10 (by decide) (by decide)) (rfl) (fun _ _ _ _ h => h)
                · clear hold; clear hcl; simp only [inv.dstsL, inv.putT, Nat.reduceAdd, List.set_cons_zero, List.set_cons_succ]
                  go_simp
                  exact hK _ _ _ (by simp only [inv.dstsL, inv.putT, Nat.reduceAdd, List.set_cons_zero, List.set_cons_succ]; (try rfl)) (hS.mark 11 (by decide) (by decide)) (rfl) (fun _ _ _ _ h => h)
                · clear hold; clear hcl; simp only [inv.dstsL, inv.putT, Nat.reduceAdd, List.set_cons_zero, List.set_cons_succ]
                  have h11 : (vs 11) = .pointer (some ⟨w.heap.size, 1, none⟩) := hD 11 (by kernel_rfl)
                  have c0 : W.cell? ⟨w.heap.size, 1, none⟩ = some (.int .i64 (-1)) := (World.cell?_of_block (a := ⟨w.heap.size, 1, none⟩) (hS.keep w.heap.size BL3.out BX3.out BV3.out)).trans A03.out.2.1
                  rw [h11]
                  go_simp
                  exact hK _ _ _ (by simp only [inv.dstsL, inv.putT, Nat.reduceAdd, List.set_cons_zero, List.set_cons_succ, h11]; (try rfl)) (hS.mark 12 (by decide) (by decide)) (rfl) (fun _ _ _ _ h => h)
                · clear hold; clear hcl; simp only [inv.dstsL, inv.putT, Nat.reduceAdd, List.set_cons_zero, List.set_cons_succ]
                  go_simp
                  exact hK _ _ _ (by simp only [inv.dstsL, inv.putT, Nat.reduceAdd, List.set_cons_zero, List.set_cons_succ]; (try rfl)) (hS.mark 13 (by decide) (by decide)) (rfl) (fun _ _ _ _ h => h)
                · clear hold; clear hcl; simp only [inv.dstsL, inv.putT, Nat.reduceAdd, List.set_cons_zero, List.set_cons_succ]
                  have h7 : (vs 7) = .string (bs s0) := hD 7 (by kernel_rfl)
                  have h8 : (vs 8) = .int .i64 (k : Int) := hD 8 (by kernel_rfl)
                  have h10 : (vs 10) = .int .i64 a0 := hD 10 (by kernel_rfl)
                  have h12 : (vs 12) = .int .i64 (-1) := hD 12 (by kernel_rfl)
                  have h13 : (vs 13) = .int .i64 co := hD 13 (by kernel_rfl)
                  rw [h7, h8, h10, h12, h13]
                  go_simp
                  exact hK _ _ _ (by simp only [inv.dstsL, inv.putT, Nat.reduceAdd, List.set_cons_zero, List.set_cons_succ, h7, h8, h10, h12, h13]; (try rfl)) (hS.mark 14 (by decide) (by decide)) (rfl) (fun _ _ _ _ h => h)
                · clear hold; clear hcl; simp only [inv.dstsL, inv.putT, Nat.reduceAdd, List.set_cons_zero, List.set_cons_succ]
                  have h14 : (vs 14) = .agg #[.string (bs s0), .int .i64 (k : Int), .int .i64 a0, .int .i64 (-1), .int .i64 co] := hD 14 (by kernel_rfl)
                  have d16 := hno 16 (by kernel_rfl)
                  have hr := hS.row d16
                  have hxs : x < W.heap.size := by obtain ⟨T, p, e, -⟩ := hS.net; exact lt_of_block e
                  rw [h14]
                  go_simp
                  exact hK _ _ _ (by simp only [inv.dstsL, inv.putT, Nat.reduceAdd, List.set_cons_zero, List.set_cons_succ, h14]; (try rfl)) ((hS.alloc _).mark 15 (by decide) (by decide)) (⟨W.heap.size, rfl, heap_alloc_new _ _, hxs, fun k => by have := (World.ownsRow.lt hr _ k).2; omega⟩) (fun j v _ _ => (DAd.kept (grown_alloc (gb_refl W none) _) (fun k hk => by cases hk)) j v)
                · clear hold; clear hcl; simp only [inv.dstsL, inv.putT, Nat.reduceAdd, List.set_cons_zero, List.set_cons_succ]
                  have h4 : (vs 4) = vd := hD 4 (by kernel_rfl)
                  have h15 : ∃ B, (vs 15) = .slice (some ⟨B, 0, none⟩) 1 1 ∧ W.heap[B]? = some (.cells #[.string (bs s0), .int .i64 (k : Int), .int .i64 a0, .int .i64 (-1), .int .i64 co] 47 (0, 0)) ∧ x + 1 ≤ B ∧ vd.ownBlock ≠ some B := hD 15 (by kernel_rfl)
                  obtain ⟨B, h15, h15b, h15c, h15d⟩ := h15
                  have d19 := hno 19 (by kernel_rfl)
                  refine step_append_own (by rfl) (.tmp 63) (.tmp 74) 24 (by rfl) (x + 1) 47 i0 _ 5 48 Tryd.underlying24 hi hz0 hz1 hz2 rfl (by decide) vd ds.length (flat encDv ds) (by exact h4) (hS.row hme) ⟨B, 0, none⟩ 1 1 (encDv ⟨bs s0, (k : Int), a0, (-1), co⟩) (by exact h15) rfl (news_of h15b rfl) (encDv_one _) (by unfold maxLen; have := NL.out; omega) (by have := NL.out; omega) (by have := lt_of_block h15b; omega) ?_
                  intro v' w' hown hg _
                  exact hK _ _ _ (by simp only [inv.dstsL, inv.putT, Nat.reduceAdd, List.set_cons_zero, List.set_cons_succ]; (try rfl)) (hS.app hme d19 (by decide) hg) (AggsAt.push hown) (fun j v hji _ h => DAd.kept2 hg j v hji h)
                · clear hold; clear hcl; simp only [inv.dstsL, inv.putT, Nat.reduceAdd, List.set_cons_zero, List.set_cons_succ]
                  have h0 : (vs 0) = .pointer (some ⟨x, 0, none⟩) := hD 0 (by kernel_rfl)
                  rw [h0]
                  go_simp
                  exact hK _ _ _ (by simp only [inv.dstsL, inv.putT, Nat.reduceAdd, List.set_cons_zero, List.set_cons_succ, h0]; (try rfl)) (hS.mark 17 (by decide) (by decide)) (rfl) (fun _ _ _ _ h => h)
                · clear hold; clear hcl; simp only [inv.dstsL, inv.putT, Nat.reduceAdd, List.set_cons_zero, List.set_cons_succ]
                  have h17 : (vs 17) = .pointer (some ⟨x, 0, none⟩) := hD 17 (by kernel_rfl)
                  rw [h17]
                  go_simp
                  exact hK _ _ _ (by simp only [inv.dstsL, inv.putT, Nat.reduceAdd, List.set_cons_zero, List.set_cons_succ, h17]; (try rfl)) (hS.mark 18 (by decide) (by decide)) (rfl) (fun _ _ _ _ h => h)
                · clear hold; clear hcl; simp only [inv.dstsL, inv.putT, Nat.reduceAdd, List.set_cons_zero, List.set_cons_succ]
                  have h16 : AggsAt 47 5 encDv W (x + 1) (vs 16) (ds ++ [⟨(bs s0), (k : Int), a0, (-1), co⟩]) := hD 16 (by kernel_rfl)
                  have h18 : (vs 18) = .pointer (some ⟨x, 1, none⟩) := hD 18 (by kernel_rfl)
                  obtain ⟨T, p, e, -⟩ := hS.net
                  obtain ⟨c0, f0⟩ := cell_at e 1
                  obtain ⟨a9, c9, h102⟩ : ∃ a9 c9, vs 16 = .slice a9 (ds.length + 1) c9 := by obtain ⟨a9, c9, e, -⟩ := AggsAt.length h16 encDv_len; exact ⟨a9, c9, by rw [e, List.length_append]; rfl⟩
                  rw [h102] at h16
                  rw [h18, h102]
                  go_simp
                  exact hK undef _ _ (by simp only [inv.dstsL, inv.putT, Nat.reduceAdd, List.set_cons_zero, List.set_cons_succ, h18, h102]; (try rfl)) (hS.store XL3.out h16) (by first | rfl | trivial) (fun j v _ _ => (DAd.kept (gb_set _ (gb_refl W (some x))) (fun k hk => by cases hk; omega)) j v)
              case rest =>
                intro vs W done hdone hS hD
                obtain ⟨BL, vE, PE⟩ := hS.fin (hdone 19 (by decide))
                have BL := Lib.hid ((BW3.out.mono (Nat.le_of_lt XL.out)).trans BL)
                have PE := Lib.hid PE
                simp only [inv.dstsL, inv.putT, Nat.reduceAdd, List.set_cons_zero, List.set_cons_succ]
                generalize vs 0 = y0, vs 1 = y1, vs 2 = y2, vs 3 = y3, vs 4 = y4, vs 5 = y5, vs 6 = y6, vs 7 = y7, vs 8 = y8, vs 9 = y9, vs 10 = y10, vs 11 = y11, vs 12 = y12, vs 13 = y13, vs 14 = y14, vs 15 = y15, vs 16 = y16, vs 17 = y17, vs 18 = y18 at *
                clear hD hdone hS
                go_wp2
                go_ret
                exact ⟨by rw [HE0.out]; rfl, BL.out, fun _ => ⟨vE, by rw [HY.out]; exact PE.out⟩⟩
      · have hE : devE ns k ws = 2 := by unfold devE; rw [if_neg hk0, if_neg (by omega), if_neg (fun h => h5 (hn ▸ h.1))]
        rw [hE]
        have JO := Lib.hid (fun W => joins_is (k : Int) false (decide_eq_false (by omega)) W)
        have hkz : ((k : Int) == 0) = false := by rw [beq_eq_false_iff_ne]; omega
        have T : ((n : Int) != 4) = true := by rw [bne_iff_ne]; omega
        clear hE hw hn hz h H hgx hgl hC
        go_enter Tryd.func46, Tryd.ntmps46
        go_wp2_with fail
        refine (JO.out _).mono ?_; rintro e1 w1 ⟨rfl, rfl⟩
        go_wp2
        go_ret
        exact ⟨rfl, Below.refl _ _, fun h => by cases h⟩
end Go.Proofs.YtdgllaiejhnjmaaDoor.mod
