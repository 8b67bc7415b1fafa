/- The walks of layer 3: Way, At. Condition: the table 'classes' holds what its text lays. -/
import Derived.Test.YtleggojgcaefdaaDoorNetG
namespace Go.Proofs.YtleggojgcaefdaaDoor.net
open Go.RowKit lex aggs kit deck

/-- what Way says -/
def WayIs (ns : List Nd) (ds : List Dv) (us : List Bool) (f t : Int) (xs : List Nat) (ok : Bool) (er : Int) : Prop :=
  if chk ns ds = 0 then if us.length = ds.length then if (0 ≤ f ∧ f < ns.length) ∧ (0 ≤ t ∧ t < ns.length) then
    er = 0 ∧ ∃ D, IsDist (nb ds us) ds.length ns.length t.toNat D ∧ ((D f.toNat = -1 ∧ ok = false ∧ xs = []) ∨ ∃ n : Nat, D f.toNat = n ∧ ok = true ∧ xs = wayL (nb ds us) ds.length D n f.toNat)
  else er = 7 ∧ ok = false ∧ xs = [] else er = 9 ∧ ok = false ∧ xs = [] else er = chk ns ds ∧ ok = false ∧ xs = []
def WayPost (ns : List Nd) (ds : List Dv) (us : List Bool) (f t : Int) (w : World) (e : Ending) (w' : World) : Prop :=
  ∃ v xs ok er, e = .returned (.tuple #[v, .bool ok, .int .i64 er]) ∧ NumsAt w' w.heap.size v xs ∧ Below w.heap.size w w' ∧ WayIs ns ds us f t xs ok er
theorem nums_nil (w : World) (b : Nat) : NumsAt w b (.slice none 0 0) [] := AggsAt.nil _ _ _ _ _
set_option maxRecDepth 100000 in
set_option maxHeartbeats 4000000 in
theorem way_is (a b u : Option Addr) (N c M d U cu : Nat) (ns : List Nd) (ds : List Dv) (us : List Bool) (f t : Int) (w : World) (H : HasClasses w) (h : NetIn w a b N c M d ns ds) (hu : RIn encB 1 w u us) (hul : us.length = U) (hU : U ≤ maxLen)
    (f0 : -9223372036854775808 ≤ f) (f1 : f ≤ 9223372036854775807) (t0 : -9223372036854775808 ≤ t) (t1 : t ≤ 9223372036854775807) :
    Calls Tryd.prog 28 #[.agg #[.slice a N c, .slice b M d], .slice u U cu, .int .i64 f, .int .i64 t] w (WayPost ns ds us f t w) := by
  have bx := below_box w (.cells #[.slice a N c, .slice b M d] 26)
  have NT := Lib.hid (NtAt.new w (.slice a N c) (.slice b M d) 26)
  have hb := Lib.hid (h.below bx)
  have hub := Lib.hid (hu.below bx)
  have m1 : N ≤ maxLen := Nat.le_trans h.ncap h.nmax
  have m2 : M ≤ maxLen := Nat.le_trans h.dcap h.dmax
  have hm1 := Lib.hid m1
  unfold maxLen at hU m1 m2
  obtain ⟨E, hE⟩ : ∃ E, chk ns ds = E := ⟨_, rfl⟩
  have CK := Lib.hid (check_is a b N c M d ns ds E _ (H.below bx) hb.out hE)
  have BX := Lib.hid bx
  have HE := Lib.hid hE
  have hn := Lib.hid h.nlen
  have hd := Lib.hid h.dlen
  have hul := Lib.hid hul
  have H0 := Lib.hid h
  have HU0 := Lib.hid hu
  clear bx hE H h hu
  by_cases e0 : E = 0
  · subst e0
    by_cases e1 : U = M
    · subst e1
      by_cases e2 : 0 ≤ f ∧ f < N
      · have ef := Lib.hid (decide_eq_true e2)
        by_cases e3 : 0 ≤ t ∧ t < N
        · have et := Lib.hid (decide_eq_true e3)
          obtain ⟨fn, rfl⟩ : ∃ k : Nat, f = k := ⟨f.toNat, by omega⟩
          obtain ⟨tn, rfl⟩ : ∃ k : Nat, t = k := ⟨t.toNat, by omega⟩
          have hfN : fn < N := by omega
          have htN : tn < N := by omega
          have hsm := chk_small HE.out
          rw [hn.out] at hsm
          have hN32 := hsm.1
          clear hsm
          go_enter Tryd.func28, Tryd.ntmps28
          go_wp2_with fail
          refine CK.out.mono ?_; rintro e w2 ⟨rfl, b2⟩
          have B2 := Lib.hid (BX.out.trans (b2.mono BX.out.size))
          have NT2 := Lib.hid (NT.out.below b2 NT.out.2.2)
          obtain ⟨k1, k2, k3⟩ := NT2.out
          have hn2 := Lib.hid (hb.out.below b2)
          have hu2 := Lib.hid (hub.out.below b2)
          have NN := Lib.hid hn2.out.nlen
          clear b2
          go_wp2_with fail
          refine (isNode_is a N c _ fn _ _ ef.out hm1.out f0 f1).mono ?_; rintro e w' ⟨rfl, rfl⟩
          go_wp2_with fail
          refine (isNode_is a N c _ tn _ _ et.out hm1.out t0 t1).mono ?_; rintro e w' ⟨rfl, rfl⟩
          have b3 : Below w2.heap.size w2 ((w2.alloc (.cells #[.slice a N c, .slice b U d] 26)).alloc (.cells #[.slice a N c, .slice b U d] 26)) := (below_box _ _).trans ((below_box _ _).mono (by simp))
          have B3 := Lib.hid (B2.out.trans (b3.mono B2.out.size))
          have NT3 := Lib.hid (NT2.out.below b3 NT2.out.2.2)
          obtain ⟨k1, k2, -⟩ := NT3.out
          have DT := Lib.hid (distancesTo_is a b u N c U d cu tn ns ds us _ (hn2.out.below b3) HE.out (hu2.out.below b3) hul.out htN)
          clear b3
          go_wp2_with fail
          refine DT.out.mono ?_; rintro e w3 ⟨A, D, rfl, hA, hD, b4⟩
          have B4 := Lib.hid (B3.out.trans (b4.mono B3.out.size))
          have NT4 := Lib.hid (NT3.out.below b4 NT3.out.2.2)
          have hn4 := Lib.hid (H0.out.below B4.out)
          have hu4 := Lib.hid (HU0.out.below B4.out)
          have hsA : A.size = 32 := hA.1
          have hI : (Tryd.prog.info? 72).map (·.size) = some A.size := by rw [hsA]; kernel_rfl
          have hone : A.all (·.oneCell') = true := by
            rw [Array.all_eq_true_iff_forall_mem]
            intro v hv
            obtain ⟨t, ht, rfl⟩ := Array.mem_iff_getElem.1 hv
            have := hA.2 t (by rw [← hA.1]; exact ht)
            rw [Array.getElem?_eq_getElem ht] at this
            injection this with this
            rw [this]; rfl
          have hzA : (#[.int .i64 0, .int .i64 0, .int .i64 0, .int .i64 0, .int .i64 0, .int .i64 0, .int .i64 0, .int .i64 0, .int .i64 0, .int .i64 0, .int .i64 0, .int .i64 0, .int .i64 0, .int .i64 0, .int .i64 0, .int .i64 0, .int .i64 0, .int .i64 0, .int .i64 0, .int .i64 0, .int .i64 0, .int .i64 0, .int .i64 0, .int .i64 0, .int .i64 0, .int .i64 0, .int .i64 0, .int .i64 0, .int .i64 0, .int .i64 0, .int .i64 0, .int .i64 0] : Array Value).size = A.size := by rw [hsA]; rfl
          have hnew := heap_alloc_last w3 (.cells #[.int .i64 0, .int .i64 0, .int .i64 0, .int .i64 0, .int .i64 0, .int .i64 0, .int .i64 0, .int .i64 0, .int .i64 0, .int .i64 0, .int .i64 0, .int .i64 0, .int .i64 0, .int .i64 0, .int .i64 0, .int .i64 0, .int .i64 0, .int .i64 0, .int .i64 0, .int .i64 0, .int .i64 0, .int .i64 0, .int .i64 0, .int .i64 0, .int .i64 0, .int .i64 0, .int .i64 0, .int .i64 0, .int .i64 0, .int .i64 0, .int .i64 0, .int .i64 0] 72)
          have eW := World.setRow_alloc_new w3 #[.int .i64 0, .int .i64 0, .int .i64 0, .int .i64 0, .int .i64 0, .int .i64 0, .int .i64 0, .int .i64 0, .int .i64 0, .int .i64 0, .int .i64 0, .int .i64 0, .int .i64 0, .int .i64 0, .int .i64 0, .int .i64 0, .int .i64 0, .int .i64 0, .int .i64 0, .int .i64 0, .int .i64 0, .int .i64 0, .int .i64 0, .int .i64 0, .int .i64 0, .int .i64 0, .int .i64 0, .int .i64 0, .int .i64 0, .int .i64 0, .int .i64 0, .int .i64 0] A 72
          have hnew2 := heap_alloc_last w3 (.cells A 72)
          have AR := Lib.hid (ArrAt.new (w := w3) (T := 72) hA)
          have NT5 := Lib.hid (NT4.out.alloc (.cells A 72))
          have b5 := Lib.hid (below_box w3 (.cells A 72))
          have HA := Lib.hid hA
          have HD := Lib.hid hD
          obtain ⟨z, hz⟩ : ∃ z, w3.heap.size = z := ⟨_, rfl⟩
          rw [hz] at hnew eW hnew2 AR
          obtain ⟨q, hq⟩ : ∃ q, D fn = q := ⟨_, rfl⟩
          have hAf := hA.2 fn (by omega)
          rw [hq] at hAf
          have HQ := Lib.hid hq
          have hq0 := hD.low fn hfN
          rw [hq] at hq0
          clear b4 hA hD CK NN k1 k2 DT hq AR
          have WI : Hid (∀ xs ok, (q = -1 ∧ ok = false ∧ xs = []) ∨ (∃ n : Nat, q = n ∧ ok = true ∧ xs = wayL (nb ds us) ds.length D n fn) → WayIs ns ds us fn tn xs ok 0) := fun xs ok hh => by
            unfold WayIs
            rw [if_pos HE.out, if_pos (hul.out.trans hd.out.symm), if_pos (by rw [hn.out]; exact ⟨e2, e3⟩)]
            refine ⟨rfl, D, by rw [hn.out]; exact HD.out, ?_⟩
            rw [Int.toNat_natCast, HQ.out]; exact hh
          by_cases e4 : q = -1
          · subst e4
            go_wp2_with (refine wpList_store_row rfl 72 (.tmp 12) (.tmp 37) rfl z A rfl rfl 72 #[.int .i64 0, .int .i64 0, .int .i64 0, .int .i64 0, .int .i64 0, .int .i64 0, .int .i64 0, .int .i64 0, .int .i64 0, .int .i64 0, .int .i64 0, .int .i64 0, .int .i64 0, .int .i64 0, .int .i64 0, .int .i64 0, .int .i64 0, .int .i64 0, .int .i64 0, .int .i64 0, .int .i64 0, .int .i64 0, .int .i64 0, .int .i64 0, .int .i64 0, .int .i64 0, .int .i64 0, .int .i64 0, .int .i64 0, .int .i64 0, .int .i64 0, .int .i64 0] hnew hI hzA hone ?_)
            exact bodyPost_ret (v := .tuple #[.slice none 0 0, .bool false, .int .i64 0]) (by simp [results, Tryd.results28, go_sem]) rfl ⟨_, [], false, 0, rfl, nums_nil _ _, B4.out.trans (b5.out.mono B4.out.size), WI.out _ _ (.inl ⟨by first | rfl | trivial, rfl, rfl⟩)⟩
          · obtain ⟨n, rfl⟩ : ∃ n : Nat, q = n := ⟨q.toNat, by omega⟩
            have T : ((n : Int) == -1) = false := by rw [beq_eq_false_iff_ne]; omega
            obtain ⟨k1, k2, -⟩ := NT5.out
            have FW := Lib.hid (firstWay_is a b u N c U d cu tn fn n A D ns ds us _ (hn4.out.below b5.out) HE.out (hu4.out.below b5.out) hul.out HA.out HD.out hfN HQ.out)
            clear e4
            go_wp2_with (first
              | (refine wpList_store_row rfl 72 (.tmp 12) (.tmp 37) rfl z A rfl rfl 72 #[.int .i64 0, .int .i64 0, .int .i64 0, .int .i64 0, .int .i64 0, .int .i64 0, .int .i64 0, .int .i64 0, .int .i64 0, .int .i64 0, .int .i64 0, .int .i64 0, .int .i64 0, .int .i64 0, .int .i64 0, .int .i64 0, .int .i64 0, .int .i64 0, .int .i64 0, .int .i64 0, .int .i64 0, .int .i64 0, .int .i64 0, .int .i64 0, .int .i64 0, .int .i64 0, .int .i64 0, .int .i64 0, .int .i64 0, .int .i64 0, .int .i64 0, .int .i64 0] hnew hI hzA hone ?_)
              | (refine wpList_load_row rfl 72 (.tmp 12) rfl z rfl 72 A (0, 0) _ hnew2 Tryd.underlying72 rfl hI ?_)
              | (go_at_call 48; refine FW.out.mono ?_; rintro e w6 ⟨v, rfl, nu, b6⟩))
            have B6 := B4.out.trans ((b5.out.trans (b6.mono b5.out.size)).mono B4.out.size)
            exact bodyPost_ret (v := .tuple #[v, .bool true, .int .i64 0]) (by simp [results, Tryd.results28, go_sem]) rfl ⟨_, _, true, 0, rfl, AggsAt.mono nu (Nat.le_trans B4.out.size b5.out.size), B6, WI.out _ _ (.inr ⟨n, by first | rfl | trivial, rfl, rfl⟩)⟩
        · have et := Lib.hid (decide_eq_false e3)
          have WI : Hid (WayIs ns ds us f t [] false 7) := by
            show WayIs _ _ _ _ _ _ _ _
            unfold WayIs
            rw [if_pos HE.out, if_pos (hul.out.trans hd.out.symm), if_neg (by rw [hn.out]; exact fun h => e3 h.2)]
            exact ⟨rfl, rfl, rfl⟩
          clear e2 e3
          go_enter Tryd.func28, Tryd.ntmps28
          go_wp2_with fail
          refine CK.out.mono ?_; rintro e w2 ⟨rfl, b2⟩
          have B2 := Lib.hid (BX.out.trans (b2.mono BX.out.size))
          have NT2 := Lib.hid (NT.out.below b2 NT.out.2.2)
          obtain ⟨k1, k2, k3⟩ := NT2.out
          have hn2 := Lib.hid (hb.out.below b2)
          have hu2 := Lib.hid (hub.out.below b2)
          have NN := Lib.hid hn2.out.nlen
          clear b2
          go_wp2_with fail
          refine (isNode_is a N c _ f _ _ ef.out hm1.out f0 f1).mono ?_; rintro e w' ⟨rfl, rfl⟩
          go_wp2_with fail
          refine (isNode_is a N c _ t _ _ et.out hm1.out t0 t1).mono ?_; rintro e w' ⟨rfl, rfl⟩
          have b3 : Below w2.heap.size w2 ((w2.alloc (.cells #[.slice a N c, .slice b U d] 26)).alloc (.cells #[.slice a N c, .slice b U d] 26)) := (below_box _ _).trans ((below_box _ _).mono (by simp))
          have B3 := Lib.hid (B2.out.trans (b3.mono B2.out.size))
          clear b3
          go_wp2
          exact bodyPost_ret (v := .tuple #[.slice none 0 0, .bool false, .int .i64 7]) (by simp [results, Tryd.results28, go_sem]) rfl ⟨_, [], false, 7, rfl, nums_nil _ _, B3.out, WI.out⟩
      · have ef := Lib.hid (decide_eq_false e2)
        have WI : Hid (WayIs ns ds us f t [] false 7) := by
          show WayIs _ _ _ _ _ _ _ _
          unfold WayIs
          rw [if_pos HE.out, if_pos (hul.out.trans hd.out.symm), if_neg (by rw [hn.out]; exact fun h => e2 h.1)]
          exact ⟨rfl, rfl, rfl⟩
        clear e2
        go_enter Tryd.func28, Tryd.ntmps28
        go_wp2_with fail
        refine CK.out.mono ?_; rintro e w2 ⟨rfl, b2⟩
        have B2 := Lib.hid (BX.out.trans (b2.mono BX.out.size))
        have NT2 := Lib.hid (NT.out.below b2 NT.out.2.2)
        obtain ⟨k1, k2, k3⟩ := NT2.out
        have hn2 := Lib.hid (hb.out.below b2)
        have hu2 := Lib.hid (hub.out.below b2)
        have NN := Lib.hid hn2.out.nlen
        clear b2
        go_wp2_with fail
        refine (isNode_is a N c _ f _ _ ef.out hm1.out f0 f1).mono ?_; rintro e w' ⟨rfl, rfl⟩
        have B3 := Lib.hid (B2.out.trans ((below_box w2 (.cells #[.slice a N c, .slice b U d] 26)).mono B2.out.size))
        go_wp2
        exact bodyPost_ret (v := .tuple #[.slice none 0 0, .bool false, .int .i64 7]) (by simp [results, Tryd.results28, go_sem]) rfl ⟨_, [], false, 7, rfl, nums_nil _ _, B3.out, WI.out⟩
    · have WI : Hid (WayIs ns ds us f t [] false 9) := by
        show WayIs _ _ _ _ _ _ _ _
        unfold WayIs
        rw [if_pos HE.out, if_neg (by rw [hul.out, hd.out]; exact e1)]
        exact ⟨rfl, rfl, rfl⟩
      have T : ((U : Int) != M) = true := by rw [bne_iff_ne]; omega
      clear e1
      go_enter Tryd.func28, Tryd.ntmps28
      go_wp2_with fail
      refine CK.out.mono ?_; rintro e w2 ⟨rfl, b2⟩
      have B2 := Lib.hid (BX.out.trans (b2.mono BX.out.size))
      have NT2 := Lib.hid (NT.out.below b2 NT.out.2.2)
      obtain ⟨k1, k2, k3⟩ := NT2.out
      have hn2 := Lib.hid (hb.out.below b2)
      have hu2 := Lib.hid (hub.out.below b2)
      have NN := Lib.hid hn2.out.nlen
      clear b2
      go_wp2
      exact bodyPost_ret (v := .tuple #[.slice none 0 0, .bool false, .int .i64 9]) (by simp [results, Tryd.results28, go_sem]) rfl ⟨_, [], false, 9, rfl, nums_nil _ _, B2.out, WI.out⟩
  · have WI : Hid (WayIs ns ds us f t [] false E) := by
      show WayIs _ _ _ _ _ _ _ _
      unfold WayIs
      rw [if_neg (by rw [HE.out]; exact e0), HE.out]
      exact ⟨rfl, rfl, rfl⟩
    have T := bne_t e0
    clear e0
    go_enter Tryd.func28, Tryd.ntmps28
    go_wp2_with fail
    refine CK.out.mono ?_; rintro e w2 ⟨rfl, b2⟩
    have B2 := Lib.hid (BX.out.trans (b2.mono BX.out.size))
    have NT2 := Lib.hid (NT.out.below b2 NT.out.2.2)
    obtain ⟨k1, k2, k3⟩ := NT2.out
    have hn2 := Lib.hid (hb.out.below b2)
    have hu2 := Lib.hid (hub.out.below b2)
    have NN := Lib.hid hn2.out.nlen
    clear b2
    go_wp2
    exact bodyPost_ret (v := .tuple #[.slice none 0 0, .bool false, .int .i64 E]) (by simp [results, Tryd.results28, go_sem]) rfl ⟨_, [], false, E, rfl, nums_nil _ _, B2.out, WI.out⟩

/-- what At says -/
def atB (ds : List Dv) (v : Int) (i : Nat) : Bool := decide ((ds.getD i default).a = v) || decide ((ds.getD i default).b = v)
def atL (ds : List Dv) (v : Int) : List Nat := (List.range ds.length).filter (atB ds v)
def atR (ns : List Nd) (ds : List Dv) (v : Int) : List Nat := if chk ns ds = 0 ∧ 0 ≤ v ∧ v < ns.length then atL ds v else []
def AtPost (ns : List Nd) (ds : List Dv) (v : Int) (w : World) (e : Ending) (w' : World) : Prop :=
  ∃ x, e = .returned x ∧ NumsAt w' w.heap.size x (atR ns ds v) ∧ Below w.heap.size w w'
theorem filt_succ (p : Nat → Bool) (j : Nat) : (List.range (j + 1)).filter p = (List.range j).filter p ++ (if p j = true then [j] else []) := by
  rw [List.range_succ, List.filter_append]
  congr 1
  by_cases h : p j = true
  · rw [if_pos h]; simp [h]
  · rw [if_neg h]; simp [h]
set_option maxRecDepth 100000 in
set_option maxHeartbeats 4000000 in
theorem at_is (a b : Option Addr) (N c M d : Nat) (ns : List Nd) (ds : List Dv) (v : Int) (w : World) (H : HasClasses w) (h : NetIn w a b N c M d ns ds) (v0 : -9223372036854775808 ≤ v) (v1 : v ≤ 9223372036854775807) :
    Calls Tryd.prog 24 #[.agg #[.slice a N c, .slice b M d], .int .i64 v] w (AtPost ns ds v w) := by
  have bx := below_box w (.cells #[.slice a N c, .slice b M d] 26)
  have NT := Lib.hid (NtAt.new w (.slice a N c) (.slice b M d) 26)
  have hb := Lib.hid (h.below bx)
  have m1 : N ≤ maxLen := Nat.le_trans h.ncap h.nmax
  have n3 := h.dcap
  have n4 := h.dmax
  have hm1 := Lib.hid m1
  unfold maxLen at m1 n4
  obtain ⟨E, hE⟩ : ∃ E, chk ns ds = E := ⟨_, rfl⟩
  have CK := Lib.hid (check_is a b N c M d ns ds E _ (H.below bx) hb.out hE)
  have BX := Lib.hid bx
  have HE := Lib.hid hE
  have hn := Lib.hid h.nlen
  have hd := Lib.hid h.dlen
  have H0 := Lib.hid h
  obtain ⟨i0, hi, hz0, hz1, hz2⟩ := info_parts infoInt
  clear bx hE H h
  by_cases e0 : E = 0
  · subst e0
    by_cases e2 : 0 ≤ v ∧ v < N
    · have ef := Lib.hid (decide_eq_true e2)
      have hM : M ≤ 64 := by have := (chk_small HE.out).2; rw [hd.out] at this; exact this
      have WI : Hid (atR ns ds v = atL ds v) := by show _ = _; unfold atR; rw [if_pos ⟨HE.out, by rw [hn.out]; exact e2⟩]
      clear e2
      go_enter Tryd.func24, Tryd.ntmps24
      go_wp2_with fail
      refine CK.out.mono ?_; rintro e w2 ⟨rfl, b2⟩
      have B2 := Lib.hid (BX.out.trans (b2.mono BX.out.size))
      have NT2 := Lib.hid (NT.out.below b2 NT.out.2.2)
      obtain ⟨k1, k2, k3⟩ := NT2.out
      have hn2 := Lib.hid (hb.out.below b2)
      have NN := Lib.hid hn2.out.nlen
      clear b2
      go_wp2_with fail
      refine (isNode_is a N c _ v _ _ ef.out hm1.out v0 v1).mono ?_; rintro e w' ⟨rfl, rfl⟩
      have b3 := below_box w2 (.cells #[.slice a N c, .slice b M d] 26)
      have B3 := Lib.hid (B2.out.trans (b3.mono B2.out.size))
      have NT3 := Lib.hid (NT2.out.below b3 NT2.out.2.2)
      obtain ⟨k1, k2, -⟩ := NT3.out
      clear b3
      go_wp2_with fail
      obtain ⟨w3, hw3⟩ : ∃ w3, w2.alloc (.cells #[.slice a N c, .slice b M d] 26) = w3 := ⟨_, rfl⟩
      rw [hw3] at B3 NT3 ⊢
      clear hw3
      obtain ⟨x, hx⟩ : ∃ x, w.heap.size = x := ⟨_, rfl⟩
      rw [hx] at B3 NT3 ⊢
      have NW := Lib.hid (fun wr (bel : Below (x + 1) w3 wr) => H0.out.below (w' := wr) (by rw [hx]; exact B3.out.trans (bel.mono (by omega))))
      go_loopw [5, 20] (fun p i wr => ∃ j : Nat, j ≤ M ∧ i = .int .i64 j ∧ Hid (NumsAt wr (x + 1) p ((List.range j).filter (atB ds v))) ∧ Hid (Below (x + 1) w3 wr)) (fun _ i _ => M - (intOf i).toNat)
      case atStart => exact ⟨0, Nat.zero_le _, rfl, nums_nil _ _, Below.refl _ _⟩
      case round => as_aux_lemma =>
        obtain ⟨j, hjM, rfl, nums, bel⟩ := hrel
        by_cases hj : j < M
        · have hjd : j < ds.length := by rw [hd.out]; exact hj
          obtain ⟨g, o, hbe, hg, hcd⟩ := (NW.out _ bel.out).din.some (by omega)
          subst hbe
          obtain ⟨c0, c1, c2, c3, c4⟩ := cells_dv hcd j hjd
          obtain ⟨xd, hxd⟩ : ∃ x, ds[j] = x := ⟨_, rfl⟩
          have AB : Hid (atB ds v j = (decide (xd.a = v) || decide (xd.b = v))) := by show _ = _; unfold atB; rw [getD_of hjd, hxd]
          have hlen : ((List.range j).filter (atB ds v)).length ≤ 64 := Nat.le_trans (List.length_filter_le _ _) (by simp; omega)
          have FS := Lib.hid (filt_succ (atB ds v) j)
          obtain ⟨acc, hacc⟩ : ∃ l, (List.range j).filter (atB ds v) = l := ⟨_, rfl⟩
          rw [hacc] at nums hlen FS
          rw [hxd] at c0 c1 c2 c3 c4
          clear hxd hcd hjd hacc
          obtain ⟨nm, ki, da, db, co⟩ := xd
          dsimp only at c0 c1 c2 c3 c4 AB
          have nums1 : Hid (NumsAt (wr.alloc (.cells #[.string nm, .int .i64 ki, .int .i64 da, .int .i64 db, .int .i64 co] 54)) (x + 1) u5 acc) := AggsAt.alloc nums.out _
          have bel1 := Lib.hid (bel.out.trans ((below_box wr (.cells #[.string nm, .int .i64 ki, .int .i64 da, .int .i64 db, .int .i64 co] 54)).mono (by have := bel.out.size; have := NT3.out.2.2; omega)))
          have nums2 : Hid (NumsAt ((wr.alloc (.cells #[.string nm, .int .i64 ki, .int .i64 da, .int .i64 db, .int .i64 co] 54)).alloc (.cells #[.int .i64 (j : Int)] 3)) (x + 1) u5 acc) := AggsAt.alloc nums1.out _
          have bel2 := Lib.hid (bel1.out.trans ((below_box _ (.cells #[.int .i64 (j : Int)] 3)).mono (by have := bel1.out.size; have := NT3.out.2.2; omega)))
          have hsz : x + 1 ≤ wr.heap.size := by have := bel.out.size; have := NT3.out.2.2; omega
          clear nums bel
          by_cases h1 : da = v
          · have T := beq_iff_eq.2 h1
            have FS2 : Hid ((List.range (j + 1)).filter (atB ds v) = acc ++ [j]) := by show _ = _; rw [FS.out, AB.out, decide_eq_true h1]; rfl
            clear h1
            go_wp2_with (at_builtin; go_must (refine wpList_append_own _ rfl (.tmp 35) (.tmp 37) 22 rfl (x + 1) 3 i0 _ 1 8 Tryd.underlying22 hi hz0 hz1 hz2 rfl (by decide) u5 acc.length (flat encN acc) rfl nums2.out _ 1 1 (encN j) rfl rfl ?qc1 ?qc2 ?qc3 ?qc4 ?qc5 ?_))
            case qc1 => exact cell_new1 _ _ (by simp) _ j
            case qc2 => exact encN_one j
            case qc3 => unfold maxLen; omega
            case qc4 => omega
            case qc5 => simp; omega
            intro v' w5 hown' hgrow hnil'
            have NU := Lib.hid (show NumsAt w5 (x + 1) v' (acc ++ [j]) from AggsAt.push hown')
            have B5 := Lib.hid (bel2.out.grown hgrow (by simp; omega) (fun q hq => by have := (World.ownsRow.lt nums2.out q hq).1; exact this))
            clear hown' hgrow hnil' nums2 bel2
            go_wp2
            go_roundw
            case rel => exact ⟨j + 1, by omega, by go_num, by rw [FS2.out]; exact NU.out, B5⟩
            case measure => simp [intOf]; omega
          · have T : (da == v) = false := beq_eq_false_iff_ne.2 h1
            by_cases h2 : db = v
            · have T2 := beq_iff_eq.2 h2
              have FS2 : Hid ((List.range (j + 1)).filter (atB ds v) = acc ++ [j]) := by show _ = _; rw [FS.out, AB.out, decide_eq_true h2, Bool.or_true]; rfl
              clear h1 h2
              go_wp2_with (at_builtin; go_must (refine wpList_append_own _ rfl (.tmp 35) (.tmp 37) 22 rfl (x + 1) 3 i0 _ 1 8 Tryd.underlying22 hi hz0 hz1 hz2 rfl (by decide) u5 acc.length (flat encN acc) rfl nums2.out _ 1 1 (encN j) rfl rfl ?qc1 ?qc2 ?qc3 ?qc4 ?qc5 ?_))
              case qc1 => exact cell_new1 _ _ (by simp) _ j
              case qc2 => exact encN_one j
              case qc3 => unfold maxLen; omega
              case qc4 => omega
              case qc5 => simp; omega
              intro v' w5 hown' hgrow hnil'
              have NU := Lib.hid (show NumsAt w5 (x + 1) v' (acc ++ [j]) from AggsAt.push hown')
              have B5 := Lib.hid (bel2.out.grown hgrow (by simp; omega) (fun q hq => by have := (World.ownsRow.lt nums2.out q hq).1; exact this))
              clear hown' hgrow hnil' nums2 bel2
              go_wp2
              go_roundw
              case rel => exact ⟨j + 1, by omega, by go_num, by rw [FS2.out]; exact NU.out, B5⟩
              case measure => simp [intOf]; omega
            · have T2 : (db == v) = false := beq_eq_false_iff_ne.2 h2
              have FS2 : Hid ((List.range (j + 1)).filter (atB ds v) = acc) := by show _ = _; rw [FS.out, AB.out, decide_eq_false h1, decide_eq_false h2]; simp
              clear h1 h2
              go_wp2
              go_roundw
              case rel => exact ⟨j + 1, by omega, by go_num, by rw [FS2.out]; exact nums1.out, bel1⟩
              case measure => simp [intOf]; omega
        · obtain rfl : M = j := by omega
          go_wp2
          go_ret
          refine ⟨_, rfl, ?_, ?_⟩
          · rw [WI.out, hx, show atL ds v = (List.range M).filter (atB ds v) from by unfold atL; rw [hd.out]]; exact AggsAt.mono nums.out (by omega)
          · rw [hx]; exact B3.out.trans (bel.out.mono (by omega))
    · have ef := Lib.hid (decide_eq_false e2)
      have WI : Hid (atR ns ds v = []) := by show _ = _; unfold atR; rw [if_neg (by rw [hn.out]; exact fun h => e2 h.2)]
      clear e2
      go_enter Tryd.func24, Tryd.ntmps24
      go_wp2_with fail
      refine CK.out.mono ?_; rintro e w2 ⟨rfl, b2⟩
      have B2 := Lib.hid (BX.out.trans (b2.mono BX.out.size))
      have NT2 := Lib.hid (NT.out.below b2 NT.out.2.2)
      obtain ⟨k1, k2, k3⟩ := NT2.out
      have hn2 := Lib.hid (hb.out.below b2)
      have NN := Lib.hid hn2.out.nlen
      clear b2
      go_wp2_with fail
      refine (isNode_is a N c _ v _ _ ef.out hm1.out v0 v1).mono ?_; rintro e w' ⟨rfl, rfl⟩
      have B3 := Lib.hid (B2.out.trans ((below_box w2 (.cells #[.slice a N c, .slice b M d] 26)).mono B2.out.size))
      go_wp2
      go_ret
      exact ⟨_, rfl, by rw [WI.out]; exact nums_nil _ _, B3.out⟩
  · have WI : Hid (atR ns ds v = []) := by show _ = _; unfold atR; rw [if_neg (by rw [HE.out]; exact fun h => e0 h.1)]
    have T := bne_t e0
    clear e0
    go_enter Tryd.func24, Tryd.ntmps24
    go_wp2_with fail
    refine CK.out.mono ?_; rintro e w2 ⟨rfl, b2⟩
    have B2 := Lib.hid (BX.out.trans (b2.mono BX.out.size))
    have NT2 := Lib.hid (NT.out.below b2 NT.out.2.2)
    obtain ⟨k1, k2, k3⟩ := NT2.out
    have hn2 := Lib.hid (hb.out.below b2)
    have NN := Lib.hid hn2.out.nlen
    clear b2
    go_wp2
    go_ret
    exact ⟨_, rfl, by rw [WI.out]; exact nums_nil _ _, B2.out⟩
end Go.Proofs.YtleggojgcaefdaaDoor.net
