/- The walk of addLine: what a line's words add to the network that is being read. Condition: the table 'classes' holds what its text lays. -/
import Derived.Test.YtdgllaiejhnjmaaDoorMdH
namespace Go.Proofs.YtdgllaiejhnjmaaDoor.mod
open Go.RowKit lex net aggs kit strs deck

theorem PB.drew {w : World} {x : Nat} {vn vd : Value} {ns : List Nd} {ds : List Dv} (h : PB w x vn vd ns ds) : PB w.drew x vn vd ns ds := ⟨h.net, h.rn, h.rd⟩
theorem addE_node (ns : List Nd) (t : List (List UInt8)) : addE ns (wNode :: t) = nodeE t := by
  unfold addE nodeE
  refine (if_pos (show at_ (wNode :: t) 0 = wNode from rfl)).trans ?_
  by_cases q : t.length = 5 ∧ at_ t 1 = wCus ∧ at_ t 3 = wCom ∧ numB (at_ t 2) lim = true ∧ numB (at_ t 4) lim = true
  · exact (if_pos ⟨by rw [List.length_cons, q.1], q.2⟩).trans (if_pos q).symm
  · exact (if_neg (fun h => q ⟨by have := h.1; rw [List.length_cons] at this; omega, h.2⟩)).trans (if_neg q).symm
theorem addS_node (ns : List Nd) (ds : List Dv) (t : List (List UInt8)) : addS (ns, ds) (wNode :: t) = (ns ++ [nodeY t], ds) := by
  unfold addS
  exact if_pos (show at_ (wNode :: t) 0 = wNode from rfl)
theorem addE_dev (ns : List Nd) (s : List UInt8) (t : List (List UInt8)) (h : s ≠ wNode) : addE ns (s :: t) = devE ns (kindOf s) t := by
  unfold addE devE
  refine (if_neg (show ¬ at_ (s :: t) 0 = wNode from h)).trans ?_
  by_cases k0 : kindOf s = 0
  · exact (if_pos (show kindOf (at_ (s :: t) 0) = 0 from k0)).trans (if_pos k0).symm
  · refine (if_neg (show ¬ kindOf (at_ (s :: t) 0) = 0 from k0)).trans (Eq.trans ?_ (if_neg k0).symm)
    by_cases k3 : kindOf s ≤ 3
    · refine (if_pos (show kindOf (at_ (s :: t) 0) ≤ 3 from k3)).trans (Eq.trans ?_ (if_pos k3).symm)
      by_cases q : t.length = 5 ∧ at_ t 3 = wCom ∧ numB (at_ t 4) lim = true
      · exact (if_pos ⟨by rw [List.length_cons, q.1], q.2⟩).trans (if_pos q).symm
      · exact (if_neg (fun h => q ⟨by have := h.1; rw [List.length_cons] at this; omega, h.2⟩)).trans (if_neg q).symm
    · refine (if_neg (show ¬ kindOf (at_ (s :: t) 0) ≤ 3 from k3)).trans (Eq.trans ?_ (if_neg k3).symm)
      by_cases q : t.length = 4 ∧ at_ t 2 = wCom ∧ numB (at_ t 3) lim = true
      · exact (if_pos ⟨by rw [List.length_cons, q.1], q.2⟩).trans (if_pos q).symm
      · exact (if_neg (fun h => q ⟨by have := h.1; rw [List.length_cons] at this; omega, h.2⟩)).trans (if_neg q).symm
theorem addS_dev (ns : List Nd) (ds : List Dv) (s : List UInt8) (t : List (List UInt8)) (h : s ≠ wNode) : addS (ns, ds) (s :: t) = (ns, ds ++ [devY ns (kindOf s) t]) := by
  unfold addS devY
  refine (if_neg (show ¬ at_ (s :: t) 0 = wNode from h)).trans ?_
  by_cases k : kindOf s ≤ 3
  · rw [if_pos k]; exact if_pos (show kindOf (at_ (s :: t) 0) ≤ 3 from k)
  · rw [if_neg k]; exact if_neg (show ¬ kindOf (at_ (s :: t) 0) ≤ 3 from k)
/-- what a line's words do -/
def lineE (ns : List Nd) (ws : List (List UInt8)) : Int := if skipB ws = true then 0 else addE ns ws
def lineS (st : List Nd × List Dv) (ws : List (List UInt8)) : List Nd × List Dv := if skipB ws = true then st else addS st ws
/-- what addLine leaves -/
def LinePost (w : World) (x : Nat) (ns : List Nd) (ds : List Dv) (ws : List (List UInt8)) (e : Ending) (w' : World) : Prop :=
  e = .returned (.int .i64 (lineE ns ws)) ∧ Below x w w' ∧ (lineE ns ws = 0 → ∃ vn vd, PB w' x vn vd (lineS (ns, ds) ws).1 (lineS (ns, ds) ws).2)
def DLn (x g n c oo cc k : Nat) (z : ByteArray) (E : Int) : Nat → Value → World → Prop
  | 0, v, _ => v = .pointer (some ⟨x, 0, none⟩)
  | 1, v, _ => v = .slice (some ⟨g, 0, none⟩) (n + 1) c
  | 2, v, _ => v = .pointer (some ⟨g, 0, none⟩)
  | 3, v, _ => v = .string z
  | 4, v, _ => v = .int .i64 (k : Int)
  | 5, v, _ => v = .slice (some ⟨g, 0, none⟩) (n + 1) c
  | 6, v, _ => v = .slice (some ⟨g, oo, none⟩) n cc
  | 7, v, _ => v = .int .i64 E
  | 8, v, _ => v = .int .i64 E
  | _, _, _ => True
theorem DLn.kept {x g n c oo cc k : Nat} {z : ByteArray} {E : Int} {W W' : World} (_hb : True) : ∀ j v, DLn x g n c oo cc k z E j v W → DLn x g n c oo cc k z E j v W'
  | 0, _, h => h
  | 1, _, h => h
  | 2, _, h => h
  | 3, _, h => h
  | 4, _, h => h
  | 5, _, h => h
  | 6, _, h => h
  | 7, _, h => h
  | 8, _, h => h
  | _ + 9, _, h => h
set_option maxRecDepth 100000 in
set_option maxHeartbeats 600000 in
theorem addLine_is (w : World) (x base : Nat) (vn vd v : Value) (ns : List Nd) (ds : List Dv) (ws : List (List UInt8)) (h : PB w x vn vd ns ds) (H : HasClasses w) (hv : StrsAt w base v ws) (hx : x < base) (hg : ∀ s ∈ ws, lex.Good s) (hz : ∀ s ∈ ws, s.length ≤ 200000) (hl : ns.length ≤ 200000) (hld : ds.length ≤ 200000) (hnl : ws.length ≤ 200000) :
    Calls Tryd.prog 33 #[.pointer (some ⟨x, 0, none⟩), v] w (LinePost w x ns ds ws) := by
  unfold LinePost
  cases ws with
  | nil =>
    obtain ⟨a, c, rfl, -⟩ := hv.length
    have P := Lib.hid h
    clear h H hv hg hz
    go_enter Tryd.func33, Tryd.ntmps33
    go_wp2
    go_ret
    exact ⟨rfl, Below.refl _ _, fun _ => ⟨vn, vd, P.out⟩⟩
  | cons s0 t =>
    rcases hv.shape with ⟨_, e⟩ | ⟨g, c, e, hbg, hgl, hlen, hcap, hcell⟩
    · cases e
    · subst e
      obtain ⟨C, hC⟩ : ∃ C, w.heap[g]? = some (.cells C 9 (0, 0)) := by
        rcases hv.2 with ⟨h2, _⟩ | ⟨g', cap, cur, e', hb, hh, -⟩
        · cases h2
        · simp only [Value.slice.injEq, Option.some.injEq, Addr.mk.injEq, and_true, true_and] at e'
          rw [← e'.1] at hh
          exact ⟨_, hh⟩
      have hgx : g ≠ x := by omega
      have hgv := (h.own hC (by decide) (by decide)).1
      obtain ⟨n, hn⟩ : ∃ n, t.length = n := ⟨_, rfl⟩
      have c0 := hcell 0 (by simp)
      rw [List.getElem_cons_zero] at c0
      have hw : WIn w g 1 t := fun i hi => by
        have := hcell (i + 1) (by simpa using hi)
        rw [List.getElem_cons_succ] at this
        rw [Nat.add_comm 1 i]; exact this
      obtain ⟨hs0, -⟩ := hg s0 List.mem_cons_self
      have hzt : ∀ s ∈ t, s.length ≤ 200000 := fun s hs => hz s (List.mem_cons_of_mem _ hs)
      rw [List.length_cons, hn] at hlen hnl ⊢
      obtain ⟨z, hzz⟩ : ∃ z, bs s0 = z := ⟨_, rfl⟩
      rw [hzz] at c0
      have hzd : z.data.toList = s0 := by rw [← hzz, bs_data]
      have Z0 : 0 < z.size := by rw [← hzz, bs_size]; exact List.length_pos_iff.2 hs0
      have hz0 : s0.head? = some z[0] := by
        have e1 : s0[0]? = some z[0] := by subst hzd; rw [List.getElem?_eq_getElem (by simpa using Z0)]; congr 1
        rw [← e1]; cases s0 <;> rfl
      have hsk : skipB (s0 :: t) = (z[0] == 35) := by
        show (false || (s0.head? == some 35)) = _
        rw [hz0]; rfl
      have C0 := Lib.hid c0
      have P := Lib.hid h
      by_cases hc1 : c = 1
      · subst hc1
        obtain rfl : n = 0 := by omega
        replace hw : WIn w g 0 t := fun i hi => by omega
        by_cases q : z[0] = 35
        · have e1 : skipB (s0 :: t) = true := by rw [hsk, q]; rfl
          have E1 : lineE ns (s0 :: t) = 0 := by unfold lineE; rw [if_pos e1]
          have S1 : lineS (ns, ds) (s0 :: t) = (ns, ds) := by unfold lineS; rw [if_pos e1]
          rw [E1, S1]
          have T1 : ((z[0].toNat : Int) == 35) = true := by rw [q]; rfl
          clear h H hv hg hz hcell hzz hzd hz0 hsk e1 E1 S1 q hw hC hgv hzt hs0
          go_enter Tryd.func33, Tryd.ntmps33
          go_wp2
          go_ret
          exact ⟨rfl, Below.refl _ _, fun _ => ⟨vn, vd, P.out⟩⟩
        · have e1 : skipB (s0 :: t) = false := by rw [hsk]; exact beq_eq_false_iff_ne.2 q
          have E1 : lineE ns (s0 :: t) = addE ns (s0 :: t) := by unfold lineE; rw [if_neg (by rw [e1]; decide)]
          have S1 : lineS (ns, ds) (s0 :: t) = addS (ns, ds) (s0 :: t) := by unfold lineS; rw [if_neg (by rw [e1]; decide)]
          rw [E1, S1]
          have T1 : ((z[0].toNat : Int) == 35) = false := by
            rw [beq_eq_false_iff_ne]; intro k
            exact q (UInt8.toNat_inj.1 (by have : z[0].toNat = 35 := by omega
                                           rw [this]; rfl))
          clear hz0 hsk e1 E1 S1 q
          by_cases q : s0 = wNode
          · subst q
            rw [addE_node, addS_node]
            have T2 : (z.toList == [110, 111, 100, 101]) = true := eqT hzd
            have AN := Lib.hid (addNode_is w x g 0 0 0 vn vd ns ds t h H hw hn (by omega) hgx hgl hgv hzt hl (by omega))
            clear h H hv hg hz hcell hzz hzd hw hC hgv hzt hs0
            go_enter Tryd.func33, Tryd.ntmps33
            go_wp2_with fail
            all_goals (try (exfalso; omega))
            refine AN.out.mono ?_; rintro e w2 ⟨rfl, b2, hp⟩
            have B2 := Lib.hid b2
            have HP := Lib.hid hp
            clear b2 hp
            go_wp2
            go_ret
            exact ⟨rfl, B2.out, fun h => by obtain ⟨v, hp⟩ := HP.out h; exact ⟨v, vd, hp⟩⟩
          · rw [addE_dev ns s0 t q, addS_dev ns ds s0 t q]
            have T2 : (z.toList == [110, 111, 100, 101]) = false := eqF (by rw [hzd]; exact q)
            obtain ⟨k0, k6⟩ := kindOf_in s0
            obtain ⟨k, hk⟩ : ∃ k : Nat, kindOf s0 = k := ⟨(kindOf s0).toNat, by omega⟩
            rw [hk] at k6 ⊢
            have HK : Hid (kindOf z.data.toList = k) := by show _ = _; rw [hzd]; exact hk
            have AD := Lib.hid (addDevice_is w.drew x g 0 0 0 k C vn vd ns ds t h.drew (fun i hi => H i hi) hw hn (by omega) hgx hgl hC hzt hl hld (by omega) (by omega))
            obtain ⟨E, hE⟩ : ∃ E, devE ns k t = E := ⟨_, rfl⟩
            rw [hE] at AD ⊢
            clear h H hv hg hz hcell hzz hzd hw hC hgv hzt hs0 hk hE
            go_enter Tryd.func33, Tryd.ntmps33
            go_wp2_with fail
            all_goals (try (exfalso; omega))
            refine inv.wp_region_inv2 (fun done W => (done 7 = false → W = w.drew) ∧ (done 7 = true → (Below x w.drew W ∧ (E = 0 → ∃ v, PB W x vn v ns (ds ++ [devY ns k t]))))) (DLn x g 0 1 0 0 k z E) (by kernel_rfl) (by kernel_rfl) ⟨fun _ => rfl, fun h => by cases h⟩ ?steps ?rest
            case steps =>
              refine ⟨fun vs W done hS hD hno hold hcl hme K hK => ?_, fun vs W done hS hD hno hold hcl hme K hK => ?_, fun vs W done hS hD hno hold hcl hme K hK => ?_, fun vs W done hS hD hno hold hcl hme K hK => ?_, fun vs W done hS hD hno hold hcl hme K hK => ?_, fun vs W done hS hD hno hold hcl hme K hK => ?_, fun vs W done hS hD hno hold hcl hme K hK => ?_, fun vs W done hS hD hno hold hcl hme K hK => ?_, fun vs W done hS hD hno hold hcl hme K hK => ?_, trivial⟩
              · clear hold; clear hcl; simp only [inv.dstsL, inv.putT, Nat.reduceAdd, List.set_cons_zero, List.set_cons_succ]
                go_simp
                exact hK _ _ _ (by simp only [inv.dstsL, inv.putT, Nat.reduceAdd, List.set_cons_zero, List.set_cons_succ]; (try rfl)) (⟨fun h => hS.1 (by simpa using h), fun h => hS.2 (by simpa using h)⟩) (rfl) (fun _ _ _ _ h => h)
              · clear hold; clear hcl; simp only [inv.dstsL, inv.putT, Nat.reduceAdd, List.set_cons_zero, List.set_cons_succ]
                go_simp
                exact hK _ _ _ (by simp only [inv.dstsL, inv.putT, Nat.reduceAdd, List.set_cons_zero, List.set_cons_succ]; (try rfl)) (⟨fun h => hS.1 (by simpa using h), fun h => hS.2 (by simpa using h)⟩) (rfl) (fun _ _ _ _ h => h)
              · clear hold; clear hcl; simp only [inv.dstsL, inv.putT, Nat.reduceAdd, List.set_cons_zero, List.set_cons_succ]
                have h1 : (vs 1) = .slice (some ⟨g, 0, none⟩) 1 1 := hD 1 (by kernel_rfl)
                rw [h1]
                go_simp
                exact hK _ _ _ (by simp only [inv.dstsL, inv.putT, Nat.reduceAdd, List.set_cons_zero, List.set_cons_succ, h1]; (try rfl)) (⟨fun h => hS.1 (by simpa using h), fun h => hS.2 (by simpa using h)⟩) (rfl) (fun _ _ _ _ h => h)
              · clear hold; simp only [inv.dstsL, inv.putT, Nat.reduceAdd, List.set_cons_zero, List.set_cons_succ]
                have h2 : (vs 2) = .pointer (some ⟨g, 0, none⟩) := hD 2 (by kernel_rfl)
                have d4 := hno 4 (by kernel_rfl)
                have d7 : done 7 = false := Bool.eq_false_iff.2 (fun h => by have := hcl 7 (by decide) h 4 (by kernel_rfl); rw [d4] at this; cases this)
                have eW := hS.1 d7
                have c0 : W.cell? ⟨g, 0, none⟩ = some (.string z) := by rw [eW]; exact C0.out
                clear hcl d4 d7 eW
                rw [h2]
                go_simp
                exact hK _ _ _ (by simp only [inv.dstsL, inv.putT, Nat.reduceAdd, List.set_cons_zero, List.set_cons_succ, h2]; (try rfl)) (⟨fun h => hS.1 (by simpa using h), fun h => hS.2 (by simpa using h)⟩) (rfl) (fun _ _ _ _ h => h)
              · clear hold; clear hcl; simp only [inv.dstsL, inv.putT, Nat.reduceAdd, List.set_cons_zero, List.set_cons_succ]
                have h3 : (vs 3) = .string z := hD 3 (by kernel_rfl)
                rw [h3]
                go_simp
                refine (kindNamed_is z (k : Int) HK.out W).mono ?_; rintro e W2 ⟨rfl, rfl⟩
                go_wp2_with fail
                exact hK _ _ _ (by simp only [inv.dstsL, inv.putT, Nat.reduceAdd, List.set_cons_zero, List.set_cons_succ, h3]; (try rfl)) (⟨fun h => hS.1 (by simpa using h), fun h => hS.2 (by simpa using h)⟩) (rfl) (fun _ _ _ _ h => h)
              · clear hold; clear hcl; simp only [inv.dstsL, inv.putT, Nat.reduceAdd, List.set_cons_zero, List.set_cons_succ]
                go_simp
                exact hK _ _ _ (by simp only [inv.dstsL, inv.putT, Nat.reduceAdd, List.set_cons_zero, List.set_cons_succ]; (try rfl)) (⟨fun h => hS.1 (by simpa using h), fun h => hS.2 (by simpa using h)⟩) (rfl) (fun _ _ _ _ h => h)
              · clear hold; clear hcl; simp only [inv.dstsL, inv.putT, Nat.reduceAdd, List.set_cons_zero, List.set_cons_succ]
                have h5 : (vs 5) = .slice (some ⟨g, 0, none⟩) 1 1 := hD 5 (by kernel_rfl)
                rw [h5]
                go_simp
                try (rw [if_pos (by omega)]; go_simp)
                exact hK _ _ _ (by simp only [inv.dstsL, inv.putT, Nat.reduceAdd, List.set_cons_zero, List.set_cons_succ, h5]; (try rfl)) (⟨fun h => hS.1 (by simpa using h), fun h => hS.2 (by simpa using h)⟩) (rfl) (fun _ _ _ _ h => h)
              · clear hold; clear hcl; simp only [inv.dstsL, inv.putT, Nat.reduceAdd, List.set_cons_zero, List.set_cons_succ]
                have h0 : (vs 0) = .pointer (some ⟨x, 0, none⟩) := hD 0 (by kernel_rfl)
                have h4 : (vs 4) = .int .i64 (k : Int) := hD 4 (by kernel_rfl)
                have h6 : (vs 6) = .slice (some ⟨g, 0, none⟩) 0 0 := hD 6 (by kernel_rfl)
                have eW := hS.1 hme
                have d8 := hno 8 (by kernel_rfl)
                rw [h0, h4, h6]
                go_simp
                try rw [eW]
                refine AD.out.mono ?_; rintro e W2 ⟨rfl, b2, hp⟩
                go_wp2_with fail
                exact hK _ _ _ (by simp only [inv.dstsL, inv.putT, Nat.reduceAdd, List.set_cons_zero, List.set_cons_succ, h0, h4, h6]; (try rfl)) (⟨fun h => by simp at h, fun _ => ⟨b2, hp⟩⟩) (rfl) (fun j v _ _ => (DLn.kept trivial) j v)
              · clear hold; clear hcl; simp only [inv.dstsL, inv.putT, Nat.reduceAdd, List.set_cons_zero, List.set_cons_succ]
                have h7 : (vs 7) = .int .i64 E := hD 7 (by kernel_rfl)
                rw [h7]
                go_simp
                exact hK _ _ _ (by simp only [inv.dstsL, inv.putT, Nat.reduceAdd, List.set_cons_zero, List.set_cons_succ, h7]; (try rfl)) (⟨fun h => hS.1 (by simpa using h), fun h => hS.2 (by simpa using h)⟩) (rfl) (fun _ _ _ _ h => h)
            case rest =>
              intro vs W done hdone hS hD
              obtain ⟨b2, hp⟩ := hS.2 (hdone 7 (by decide))
              have h8 : (vs 8) = .int .i64 E := hD 8 (by decide)
              simp only [inv.dstsL, inv.putT, Nat.reduceAdd, List.set_cons_zero, List.set_cons_succ]
              rw [h8]
              have B2 := Lib.hid ((Below.refl x w).drew.trans b2)
              have HP := Lib.hid hp
              generalize vs 0 = y0, vs 1 = y1, vs 2 = y2, vs 3 = y3, vs 4 = y4, vs 5 = y5, vs 6 = y6, vs 7 = y7 at *
              clear hD hdone hS b2 hp h8
              go_wp2
              go_ret
              exact ⟨rfl, B2.out, fun h => by obtain ⟨v, hp⟩ := HP.out h; exact ⟨_, v, hp⟩⟩
      · have hc2 : 1 < c := by omega
        by_cases q : z[0] = 35
        · have e1 : skipB (s0 :: t) = true := by rw [hsk, q]; rfl
          have E1 : lineE ns (s0 :: t) = 0 := by unfold lineE; rw [if_pos e1]
          have S1 : lineS (ns, ds) (s0 :: t) = (ns, ds) := by unfold lineS; rw [if_pos e1]
          rw [E1, S1]
          have T1 : ((z[0].toNat : Int) == 35) = true := by rw [q]; rfl
          clear h H hv hg hz hcell hzz hzd hz0 hsk e1 E1 S1 q hw hC hgv hzt hs0
          go_enter Tryd.func33, Tryd.ntmps33
          go_wp2
          go_ret
          exact ⟨rfl, Below.refl _ _, fun _ => ⟨vn, vd, P.out⟩⟩
        · have e1 : skipB (s0 :: t) = false := by rw [hsk]; exact beq_eq_false_iff_ne.2 q
          have E1 : lineE ns (s0 :: t) = addE ns (s0 :: t) := by unfold lineE; rw [if_neg (by rw [e1]; decide)]
          have S1 : lineS (ns, ds) (s0 :: t) = addS (ns, ds) (s0 :: t) := by unfold lineS; rw [if_neg (by rw [e1]; decide)]
          rw [E1, S1]
          have T1 : ((z[0].toNat : Int) == 35) = false := by
            rw [beq_eq_false_iff_ne]; intro k
            exact q (UInt8.toNat_inj.1 (by have : z[0].toNat = 35 := by omega
                                           rw [this]; rfl))
          clear hz0 hsk e1 E1 S1 q
          by_cases q : s0 = wNode
          · subst q
            rw [addE_node, addS_node]
            have T2 : (z.toList == [110, 111, 100, 101]) = true := eqT hzd
            have AN := Lib.hid (addNode_is w x g 1 n (c - 1) vn vd ns ds t h H hw hn (by omega) hgx hgl hgv hzt hl (by omega))
            clear h H hv hg hz hcell hzz hzd hw hC hgv hzt hs0
            go_enter Tryd.func33, Tryd.ntmps33
            go_wp2_with fail
            all_goals (try (exfalso; omega))
            refine AN.out.mono ?_; rintro e w2 ⟨rfl, b2, hp⟩
            have B2 := Lib.hid b2
            have HP := Lib.hid hp
            clear b2 hp
            go_wp2
            go_ret
            exact ⟨rfl, B2.out, fun h => by obtain ⟨v, hp⟩ := HP.out h; exact ⟨v, vd, hp⟩⟩
          · rw [addE_dev ns s0 t q, addS_dev ns ds s0 t q]
            have T2 : (z.toList == [110, 111, 100, 101]) = false := eqF (by rw [hzd]; exact q)
            obtain ⟨k0, k6⟩ := kindOf_in s0
            obtain ⟨k, hk⟩ : ∃ k : Nat, kindOf s0 = k := ⟨(kindOf s0).toNat, by omega⟩
            rw [hk] at k6 ⊢
            have HK : Hid (kindOf z.data.toList = k) := by show _ = _; rw [hzd]; exact hk
            have AD := Lib.hid (addDevice_is w.drew x g 1 n (c - 1) k C vn vd ns ds t h.drew (fun i hi => H i hi) hw hn (by omega) hgx hgl hC hzt hl hld (by omega) (by omega))
            obtain ⟨E, hE⟩ : ∃ E, devE ns k t = E := ⟨_, rfl⟩
            rw [hE] at AD ⊢
            clear h H hv hg hz hcell hzz hzd hw hC hgv hzt hs0 hk hE
            go_enter Tryd.func33, Tryd.ntmps33
            go_wp2_with fail
            all_goals (try (exfalso; omega))
            refine inv.wp_region_inv2 (fun done W => (done 7 = false → W = w.drew) ∧ (done 7 = true → (Below x w.drew W ∧ (E = 0 → ∃ v, PB W x vn v ns (ds ++ [devY ns k t]))))) (DLn x g n c 1 (c - 1) k z E) (by kernel_rfl) (by kernel_rfl) ⟨fun _ => rfl, fun h => by cases h⟩ ?steps ?rest
            case steps =>
              refine ⟨fun vs W done hS hD hno hold hcl hme K hK => ?_, fun vs W done hS hD hno hold hcl hme K hK => ?_, fun vs W done hS hD hno hold hcl hme K hK => ?_, fun vs W done hS hD hno hold hcl hme K hK => ?_, fun vs W done hS hD hno hold hcl hme K hK => ?_, fun vs W done hS hD hno hold hcl hme K hK => ?_, fun vs W done hS hD hno hold hcl hme K hK => ?_, fun vs W done hS hD hno hold hcl hme K hK => ?_, fun vs W done hS hD hno hold hcl hme K hK => ?_, trivial⟩
              · clear hold; clear hcl; simp only [inv.dstsL, inv.putT, Nat.reduceAdd, List.set_cons_zero, List.set_cons_succ]
                go_simp
                exact hK _ _ _ (by simp only [inv.dstsL, inv.putT, Nat.reduceAdd, List.set_cons_zero, List.set_cons_succ]; (try rfl)) (⟨fun h => hS.1 (by simpa using h), fun h => hS.2 (by simpa using h)⟩) (rfl) (fun _ _ _ _ h => h)
              · clear hold; clear hcl; simp only [inv.dstsL, inv.putT, Nat.reduceAdd, List.set_cons_zero, List.set_cons_succ]
                go_simp
                exact hK _ _ _ (by simp only [inv.dstsL, inv.putT, Nat.reduceAdd, List.set_cons_zero, List.set_cons_succ]; (try rfl)) (⟨fun h => hS.1 (by simpa using h), fun h => hS.2 (by simpa using h)⟩) (rfl) (fun _ _ _ _ h => h)
              · clear hold; clear hcl; simp only [inv.dstsL, inv.putT, Nat.reduceAdd, List.set_cons_zero, List.set_cons_succ]
                have h1 : (vs 1) = .slice (some ⟨g, 0, none⟩) (n + 1) c := hD 1 (by kernel_rfl)
                rw [h1]
                go_simp
                exact hK _ _ _ (by simp only [inv.dstsL, inv.putT, Nat.reduceAdd, List.set_cons_zero, List.set_cons_succ, h1]; (try rfl)) (⟨fun h => hS.1 (by simpa using h), fun h => hS.2 (by simpa using h)⟩) (rfl) (fun _ _ _ _ h => h)
              · clear hold; simp only [inv.dstsL, inv.putT, Nat.reduceAdd, List.set_cons_zero, List.set_cons_succ]
                have h2 : (vs 2) = .pointer (some ⟨g, 0, none⟩) := hD 2 (by kernel_rfl)
                have d4 := hno 4 (by kernel_rfl)
                have d7 : done 7 = false := Bool.eq_false_iff.2 (fun h => by have := hcl 7 (by decide) h 4 (by kernel_rfl); rw [d4] at this; cases this)
                have eW := hS.1 d7
                have c0 : W.cell? ⟨g, 0, none⟩ = some (.string z) := by rw [eW]; exact C0.out
                clear hcl d4 d7 eW
                rw [h2]
                go_simp
                exact hK _ _ _ (by simp only [inv.dstsL, inv.putT, Nat.reduceAdd, List.set_cons_zero, List.set_cons_succ, h2]; (try rfl)) (⟨fun h => hS.1 (by simpa using h), fun h => hS.2 (by simpa using h)⟩) (rfl) (fun _ _ _ _ h => h)
              · clear hold; clear hcl; simp only [inv.dstsL, inv.putT, Nat.reduceAdd, List.set_cons_zero, List.set_cons_succ]
                have h3 : (vs 3) = .string z := hD 3 (by kernel_rfl)
                rw [h3]
                go_simp
                refine (kindNamed_is z (k : Int) HK.out W).mono ?_; rintro e W2 ⟨rfl, rfl⟩
                go_wp2_with fail
                exact hK _ _ _ (by simp only [inv.dstsL, inv.putT, Nat.reduceAdd, List.set_cons_zero, List.set_cons_succ, h3]; (try rfl)) (⟨fun h => hS.1 (by simpa using h), fun h => hS.2 (by simpa using h)⟩) (rfl) (fun _ _ _ _ h => h)
              · clear hold; clear hcl; simp only [inv.dstsL, inv.putT, Nat.reduceAdd, List.set_cons_zero, List.set_cons_succ]
                go_simp
                exact hK _ _ _ (by simp only [inv.dstsL, inv.putT, Nat.reduceAdd, List.set_cons_zero, List.set_cons_succ]; (try rfl)) (⟨fun h => hS.1 (by simpa using h), fun h => hS.2 (by simpa using h)⟩) (rfl) (fun _ _ _ _ h => h)
              · clear hold; clear hcl; simp only [inv.dstsL, inv.putT, Nat.reduceAdd, List.set_cons_zero, List.set_cons_succ]
                have h5 : (vs 5) = .slice (some ⟨g, 0, none⟩) (n + 1) c := hD 5 (by kernel_rfl)
                rw [h5]
                go_simp
                try (rw [if_pos (by omega)]; go_simp)
                exact hK _ _ _ (by simp only [inv.dstsL, inv.putT, Nat.reduceAdd, List.set_cons_zero, List.set_cons_succ, h5]; (try rfl)) (⟨fun h => hS.1 (by simpa using h), fun h => hS.2 (by simpa using h)⟩) (rfl) (fun _ _ _ _ h => h)
              · clear hold; clear hcl; simp only [inv.dstsL, inv.putT, Nat.reduceAdd, List.set_cons_zero, List.set_cons_succ]
                have h0 : (vs 0) = .pointer (some ⟨x, 0, none⟩) := hD 0 (by kernel_rfl)
                have h4 : (vs 4) = .int .i64 (k : Int) := hD 4 (by kernel_rfl)
                have h6 : (vs 6) = .slice (some ⟨g, 1, none⟩) n (c - 1) := hD 6 (by kernel_rfl)
                have eW := hS.1 hme
                have d8 := hno 8 (by kernel_rfl)
                rw [h0, h4, h6]
                go_simp
                try rw [eW]
                refine AD.out.mono ?_; rintro e W2 ⟨rfl, b2, hp⟩
                go_wp2_with fail
                exact hK _ _ _ (by simp only [inv.dstsL, inv.putT, Nat.reduceAdd, List.set_cons_zero, List.set_cons_succ, h0, h4, h6]; (try rfl)) (⟨fun h => by simp at h, fun _ => ⟨b2, hp⟩⟩) (rfl) (fun j v _ _ => (DLn.kept trivial) j v)
              · clear hold; clear hcl; simp only [inv.dstsL, inv.putT, Nat.reduceAdd, List.set_cons_zero, List.set_cons_succ]
                have h7 : (vs 7) = .int .i64 E := hD 7 (by kernel_rfl)
                rw [h7]
                go_simp
                exact hK _ _ _ (by simp only [inv.dstsL, inv.putT, Nat.reduceAdd, List.set_cons_zero, List.set_cons_succ, h7]; (try rfl)) (⟨fun h => hS.1 (by simpa using h), fun h => hS.2 (by simpa using h)⟩) (rfl) (fun _ _ _ _ h => h)
            case rest =>
              intro vs W done hdone hS hD
              obtain ⟨b2, hp⟩ := hS.2 (hdone 7 (by decide))
              have h8 : (vs 8) = .int .i64 E := hD 8 (by decide)
              simp only [inv.dstsL, inv.putT, Nat.reduceAdd, List.set_cons_zero, List.set_cons_succ]
              rw [h8]
              have B2 := Lib.hid ((Below.refl x w).drew.trans b2)
              have HP := Lib.hid hp
              generalize vs 0 = y0, vs 1 = y1, vs 2 = y2, vs 3 = y3, vs 4 = y4, vs 5 = y5, vs 6 = y6, vs 7 = y7 at *
              clear hD hdone hS b2 hp h8
              go_wp2
              go_ret
              exact ⟨rfl, B2.out, fun h => by obtain ⟨v, hp⟩ := HP.out h; exact ⟨_, v, hp⟩⟩
end Go.Proofs.YtdgllaiejhnjmaaDoor.mod
