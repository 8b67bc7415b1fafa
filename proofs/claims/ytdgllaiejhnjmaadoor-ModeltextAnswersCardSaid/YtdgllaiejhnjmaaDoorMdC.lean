/- The walks of Print: a device's line. Condition: the tables hold what their texts lay. -/
import Derived.Test.YtdgllaiejhnjmaaDoorMdB
namespace Go.Proofs.YtdgllaiejhnjmaaDoor.mod
open Go.RowKit lex net aggs kit strs

theorem cell_two (w : World) (u0 u1 : Value) (T : Nat) : ∀ j u, ([u0, u1] : List Value)[j]? = some u → (w.alloc (.cells #[u0, u1] T)).cell? ((⟨w.heap.size, 0, none⟩ : Addr).add j) = some u :=
  cell_one (enc := fun _ : Unit => [u0, u1]) (_k := 2) w #[u0, u1] T () rfl
def DDl (x g o N c k A : Nat) (nm na : ByteArray) : Nat → Value → World → Prop
  | 0, v, _ => v = .pointer (some ⟨x + 1, 1, none⟩)
  | 1, v, _ => v = .int .i64 (k : Int)
  | 2, v, _ => v = .pointer (some ⟨0, k, none⟩)
  | 3, v, _ => v = .string (bs (kw k))
  | 4, v, _ => v = .pointer (some ⟨x + 1, 0, none⟩)
  | 5, v, _ => v = .string nm
  | 6, v, _ => v = .pointer (some ⟨x, 0, none⟩)
  | 7, v, _ => v = .slice (some ⟨g, o, none⟩) N c
  | 8, v, _ => v = .pointer (some ⟨x + 1, 2, none⟩)
  | 9, v, _ => v = .int .i64 (A : Int)
  | 10, v, _ => v = .pointer (some ⟨g, o + A * 3, none⟩)
  | 11, v, _ => v = .pointer (some ⟨g, o + A * 3, none⟩)
  | 12, v, _ => v = .string na
  | 13, v, W => StrsAt W (x + 2) v [kw k, nm.data.toList, na.data.toList]
  | 14, v, W => StrsAt W (x + 2) v [kw k, nm.data.toList, na.data.toList]
  | _, _, _ => True
theorem DDl.kept {x g o N c k A : Nat} {nm na : ByteArray} {W W' : World} (hb : Below W.heap.size W W') : ∀ j v, DDl x g o N c k A nm na j v W → DDl x g o N c k A nm na j v W'
  | 0, _, h => h
  | 1, _, h => h
  | 2, _, h => h
  | 3, _, h => h
  | 4, _, h => h
  | 5, _, h => h
  | 6, _, h => h
  | 7, _, h => h
  | 8, _, h => h
  | 9, _, h => h
  | 10, _, h => h
  | 11, _, h => h
  | 12, _, h => h
  | 13, _, h => StrsAt.below (show StrsAt _ _ _ _ from h) hb
  | 14, _, h => StrsAt.below (show StrsAt _ _ _ _ from h) hb
  | _ + 15, _, h => h
theorem bsz2 {w W : World} {o o' : Obj} (h : Below (w.heap.size + 2) ((w.alloc o).alloc o') W) : w.heap.size + 2 ≤ W.heap.size := by have := h.size; simpa using this
set_option maxRecDepth 100000 in
set_option maxHeartbeats 4000000 in
theorem deviceLine_is (a b : Option Addr) (N c M e : Nat) (ns : List Nd) (d : Dv) (w : World) (h : MTabs w) (hn : RIn encNd 3 w a ns) (hN : ns.length = N) (k1 : 1 ≤ d.ki) (k6 : d.ki ≤ 6) (a0 : 0 ≤ d.a) (a1 : d.a < N) (hb : d.ki ≤ 3 → 0 ≤ d.b ∧ d.b < N)
    (hc : -9223372036854775808 ≤ d.co ∧ d.co ≤ 9223372036854775807) (hsz : d.nm.size ≤ 1000000) (hns : ∀ x ∈ ns, x.nm.size ≤ 1000000) (hNl : N ≤ 1000000) :
    Calls Tryd.prog 29 #[.agg #[.slice a N c, .slice b M e], dvV d] w fun e w' => e = .returned (.string (bs (Lib.join (dvW ns d) [32] ++ [10]))) ∧ Below w.heap.size w w' := by
  obtain ⟨nm, ki, da, db, co⟩ := d
  unfold dvW dvV
  dsimp only at k1 k6 a0 a1 hb hc hsz ⊢
  obtain ⟨k, rfl⟩ : ∃ k : Nat, ki = k := ⟨ki.toNat, by omega⟩
  obtain ⟨A, rfl⟩ : ∃ k : Nat, da = k := ⟨da.toNat, by omega⟩
  obtain ⟨g, o, rfl, hg, hcs⟩ := hn.some (by omega)
  have hk6 : k ≤ 6 := by omega
  have hAl : A < ns.length := by omega
  obtain ⟨na, hna⟩ : ∃ z, ns[A].nm = z := ⟨_, rfl⟩
  have eA : (ns.getD (A : Int).toNat default).nm = na := by rw [Int.toNat_natCast, List.getD_eq_getElem?_getD, List.getElem?_eq_getElem hAl]; exact hna
  rw [eA]
  have hlA : na.data.toList.length ≤ 1000000 := by rw [← hna]; have := hns _ (List.getElem_mem hAl); simpa using this
  have hlk : (kw k).length ≤ 12 := by unfold kw; repeat' split
                                      all_goals decide
  have hlm : nm.data.toList.length ≤ 1000000 := by simpa using hsz
  have hlc : wCom.length = 7 := rfl
  have hlo := itoa_length co hc.1 hc.2
  have bx1 := below_box w (.cells #[.slice (some ⟨g, o, none⟩) N c, .slice b M e] 26)
  have bx2 := below_box (w.alloc (.cells #[.slice (some ⟨g, o, none⟩) N c, .slice b M e] 26)) (.cells #[.string nm, .int .i64 (k : Int), .int .i64 (A : Int), .int .i64 db, .int .i64 co] 47)
  have bx := bx1.trans (bx2.mono bx1.size)
  have nt0 := (NtAt.new w (.slice (some ⟨g, o, none⟩) N c) (.slice b M e) 26).alloc (.cells #[.string nm, .int .i64 (k : Int), .int .i64 (A : Int), .int .i64 db, .int .i64 co] 47)
  have dv0 := DvAt.new (w.alloc (.cells #[.slice (some ⟨g, o, none⟩) N c, .slice b M e] 26)) ⟨nm, k, A, db, co⟩ 47
  rw [World.size_alloc] at dv0
  have HT : Hid (∀ W, Below (w.heap.size + 2) ((w.alloc (.cells #[.slice (some ⟨g, o, none⟩) N c, .slice b M e] 26)).alloc (.cells #[.string nm, .int .i64 (k : Int), .int .i64 (A : Int), .int .i64 db, .int .i64 co] 47)) W → MTabs W) := fun W hS => h.below (bx.trans (hS.mono (by omega)))
  have DV : Hid (∀ W, Below (w.heap.size + 2) ((w.alloc (.cells #[.slice (some ⟨g, o, none⟩) N c, .slice b M e] 26)).alloc (.cells #[.string nm, .int .i64 (k : Int), .int .i64 (A : Int), .int .i64 db, .int .i64 co] 47)) W → DvAt W (w.heap.size + 1) ⟨nm, k, A, db, co⟩) := fun W hS => dv0.below hS (by omega)
  have NT : Hid (∀ W, Below (w.heap.size + 2) ((w.alloc (.cells #[.slice (some ⟨g, o, none⟩) N c, .slice b M e] 26)).alloc (.cells #[.string nm, .int .i64 (k : Int), .int .i64 (A : Int), .int .i64 db, .int .i64 co] 47)) W → NtAt W w.heap.size (.slice (some ⟨g, o, none⟩) N c) (.slice b M e)) := fun W hS => nt0.below hS (by omega)
  have CA : Hid (∀ (i : Nat) (hi : i < ns.length) W, Below (w.heap.size + 2) ((w.alloc (.cells #[.slice (some ⟨g, o, none⟩) N c, .slice b M e] 26)).alloc (.cells #[.string nm, .int .i64 (k : Int), .int .i64 (A : Int), .int .i64 db, .int .i64 co] 47)) W → W.cell? ⟨g, o + i * 3, none⟩ = some (.string ns[i].nm)) := fun i hi W hS => by
    have hb2 := bx.trans (hS.mono (by omega))
    exact (cells_nd (hcs.below hb2) i hi).1
  have CN : Hid (∀ W, Below (w.heap.size + 2) ((w.alloc (.cells #[.slice (some ⟨g, o, none⟩) N c, .slice b M e] 26)).alloc (.cells #[.string nm, .int .i64 (k : Int), .int .i64 (A : Int), .int .i64 db, .int .i64 co] 47)) W → W.cell? ⟨g, o + A * 3, none⟩ = some (.string na)) := fun W hS => by rw [← hna]; exact CA.out A hAl W hS
  have BX := Lib.hid bx
  obtain ⟨i0, hi, hz0, hz1, hz2⟩ := info_parts info9
  clear h hn hcs hg bx1 bx2 bx nt0 dv0 eA hna
  by_cases hj : k ≤ 3
  · obtain ⟨b0, b1⟩ := hb (by omega)
    obtain ⟨B, rfl⟩ : ∃ z : Nat, db = z := ⟨db.toNat, by omega⟩
    have hBl : B < ns.length := by omega
    obtain ⟨nb, hnb⟩ : ∃ z, ns[B].nm = z := ⟨_, rfl⟩
    have eB : (ns.getD (B : Int).toNat default).nm = nb := by rw [Int.toNat_natCast, List.getD_eq_getElem?_getD, List.getElem?_eq_getElem hBl]; exact hnb
    rw [if_pos (by omega), eB]
    have hlB : nb.data.toList.length ≤ 1000000 := by rw [← hnb]; have := hns _ (List.getElem_mem hBl); simpa using this
    have CB : Hid (∀ W, Below (w.heap.size + 2) ((w.alloc (.cells #[.slice (some ⟨g, o, none⟩) N c, .slice b M e] 26)).alloc (.cells #[.string nm, .int .i64 (k : Int), .int .i64 (A : Int), .int .i64 (B : Int), .int .i64 co] 47)) W → W.cell? ⟨g, o + B * 3, none⟩ = some (.string nb)) := fun W hS => by rw [← hnb]; exact CA.out B hBl W hS
    clear eB hnb CA hns hb
    have hw : Hid (wsum [kw k, nm.data.toList, na.data.toList, nb.data.toList, wCom, Lib.itoa co] ≤ 140737488355328) := by
      show wsum _ ≤ _
      simp only [wsum_cons, wsum_nil]
      omega
    have JO := Lib.hid (fun W => joins_is (k : Int) true (decide_eq_true (by omega)) W)
    go_enter Tryd.func29, Tryd.ntmps29
    go_wp2_with fail
    refine inv.wp_region_inv (fun _ W => Below (w.heap.size + 2) ((w.alloc (.cells #[.slice (some ⟨g, o, none⟩) N c, .slice b M e] 26)).alloc (.cells #[.string nm, .int .i64 (k : Int), .int .i64 (A : Int), .int .i64 (B : Int), .int .i64 co] 47)) W) (DDl w.heap.size g o N c k A nm na) (by kernel_rfl) (by kernel_rfl) (Below.refl _ _).drew ?steps ?rest
    case steps =>
      refine ⟨fun vs W done hS hD hno K hK => ?_, fun vs W done hS hD hno K hK => ?_, fun vs W done hS hD hno K hK => ?_, fun vs W done hS hD hno K hK => ?_, fun vs W done hS hD hno K hK => ?_, fun vs W done hS hD hno K hK => ?_, fun vs W done hS hD hno K hK => ?_, fun vs W done hS hD hno K hK => ?_, fun vs W done hS hD hno K hK => ?_, fun vs W done hS hD hno K hK => ?_, fun vs W done hS hD hno K hK => ?_, fun vs W done hS hD hno K hK => ?_, fun vs W done hS hD hno K hK => ?_, fun vs W done hS hD hno K hK => ?_, fun vs W done hS hD hno K hK => ?_, trivial⟩
      · simp only [inv.dstsL, inv.putT, Nat.reduceAdd, List.set_cons_zero, List.set_cons_succ]
        go_simp
        exact hK _ _ _ (by simp only [inv.dstsL, inv.putT, Nat.reduceAdd, List.set_cons_zero, List.set_cons_succ]; (try rfl)) (hS) (rfl) (fun _ _ h => h)
      · simp only [inv.dstsL, inv.putT, Nat.reduceAdd, List.set_cons_zero, List.set_cons_succ]
        have h0 : (vs 0) = .pointer (some ⟨w.heap.size + 1, 1, none⟩) := hD 0 (by kernel_rfl)
        have c0 := (DV.out W hS).2.1
        rw [h0]
        go_simp
        exact hK _ _ _ (by simp only [inv.dstsL, inv.putT, Nat.reduceAdd, List.set_cons_zero, List.set_cons_succ, h0]; (try rfl)) (hS) (rfl) (fun _ _ h => h)
      · simp only [inv.dstsL, inv.putT, Nat.reduceAdd, List.set_cons_zero, List.set_cons_succ]
        have h1 : (vs 1) = .int .i64 (k : Int) := hD 1 (by kernel_rfl)
        have hk7 : (k : Int) < 7 := by omega
        rw [h1]
        go_simp
        exact hK _ _ _ (by simp only [inv.dstsL, inv.putT, Nat.reduceAdd, List.set_cons_zero, List.set_cons_succ, h1]; (try rfl)) (hS) (rfl) (fun _ _ h => h)
      · simp only [inv.dstsL, inv.putT, Nat.reduceAdd, List.set_cons_zero, List.set_cons_succ]
        have h2 : (vs 2) = .pointer (some ⟨0, k, none⟩) := hD 2 (by kernel_rfl)
        have c0 := (HT.out W hS).kinds k hk6
        rw [h2]
        go_simp
        exact hK _ _ _ (by simp only [inv.dstsL, inv.putT, Nat.reduceAdd, List.set_cons_zero, List.set_cons_succ, h2]; (try rfl)) (hS) (rfl) (fun _ _ h => h)
      · simp only [inv.dstsL, inv.putT, Nat.reduceAdd, List.set_cons_zero, List.set_cons_succ]
        go_simp
        exact hK _ _ _ (by simp only [inv.dstsL, inv.putT, Nat.reduceAdd, List.set_cons_zero, List.set_cons_succ]; (try rfl)) (hS) (rfl) (fun _ _ h => h)
      · simp only [inv.dstsL, inv.putT, Nat.reduceAdd, List.set_cons_zero, List.set_cons_succ]
        have h4 : (vs 4) = .pointer (some ⟨w.heap.size + 1, 0, none⟩) := hD 4 (by kernel_rfl)
        have c0 := (DV.out W hS).1
        rw [h4]
        go_simp
        exact hK _ _ _ (by simp only [inv.dstsL, inv.putT, Nat.reduceAdd, List.set_cons_zero, List.set_cons_succ, h4]; (try rfl)) (hS) (rfl) (fun _ _ h => h)
      · simp only [inv.dstsL, inv.putT, Nat.reduceAdd, List.set_cons_zero, List.set_cons_succ]
        go_simp
        exact hK _ _ _ (by simp only [inv.dstsL, inv.putT, Nat.reduceAdd, List.set_cons_zero, List.set_cons_succ]; (try rfl)) (hS) (rfl) (fun _ _ h => h)
      · simp only [inv.dstsL, inv.putT, Nat.reduceAdd, List.set_cons_zero, List.set_cons_succ]
        have h6 : (vs 6) = .pointer (some ⟨w.heap.size, 0, none⟩) := hD 6 (by kernel_rfl)
        have c0 := (NT.out W hS).1
        rw [h6]
        go_simp
        exact hK _ _ _ (by simp only [inv.dstsL, inv.putT, Nat.reduceAdd, List.set_cons_zero, List.set_cons_succ, h6]; (try rfl)) (hS) (rfl) (fun _ _ h => h)
      · simp only [inv.dstsL, inv.putT, Nat.reduceAdd, List.set_cons_zero, List.set_cons_succ]
        go_simp
        exact hK _ _ _ (by simp only [inv.dstsL, inv.putT, Nat.reduceAdd, List.set_cons_zero, List.set_cons_succ]; (try rfl)) (hS) (rfl) (fun _ _ h => h)
      · simp only [inv.dstsL, inv.putT, Nat.reduceAdd, List.set_cons_zero, List.set_cons_succ]
        have h8 : (vs 8) = .pointer (some ⟨w.heap.size + 1, 2, none⟩) := hD 8 (by kernel_rfl)
        have c0 := (DV.out W hS).2.2.1
        rw [h8]
        go_simp
        exact hK _ _ _ (by simp only [inv.dstsL, inv.putT, Nat.reduceAdd, List.set_cons_zero, List.set_cons_succ, h8]; (try rfl)) (hS) (rfl) (fun _ _ h => h)
      · simp only [inv.dstsL, inv.putT, Nat.reduceAdd, List.set_cons_zero, List.set_cons_succ]
        have h7 : (vs 7) = .slice (some ⟨g, o, none⟩) N c := hD 7 (by kernel_rfl)
        have h9 : (vs 9) = .int .i64 (A : Int) := hD 9 (by kernel_rfl)
        rw [h7, h9]
        go_simp
        exact hK _ _ _ (by simp only [inv.dstsL, inv.putT, Nat.reduceAdd, List.set_cons_zero, List.set_cons_succ, h7, h9]; (try rfl)) (hS) (rfl) (fun _ _ h => h)
      · simp only [inv.dstsL, inv.putT, Nat.reduceAdd, List.set_cons_zero, List.set_cons_succ]
        have h10 : (vs 10) = .pointer (some ⟨g, o + A * 3, none⟩) := hD 10 (by kernel_rfl)
        rw [h10]
        go_simp
        exact hK _ _ _ (by simp only [inv.dstsL, inv.putT, Nat.reduceAdd, List.set_cons_zero, List.set_cons_succ, h10]; (try rfl)) (hS) (rfl) (fun _ _ h => h)
      · simp only [inv.dstsL, inv.putT, Nat.reduceAdd, List.set_cons_zero, List.set_cons_succ]
        have h11 : (vs 11) = .pointer (some ⟨g, o + A * 3, none⟩) := hD 11 (by kernel_rfl)
        have c0 := CN.out W hS
        rw [h11]
        go_simp
        exact hK _ _ _ (by simp only [inv.dstsL, inv.putT, Nat.reduceAdd, List.set_cons_zero, List.set_cons_succ, h11]; (try rfl)) (hS) (rfl) (fun _ _ h => h)
      · simp only [inv.dstsL, inv.putT, Nat.reduceAdd, List.set_cons_zero, List.set_cons_succ]
        have h3 : (vs 3) = .string (bs (kw k)) := hD 3 (by kernel_rfl)
        have h5 : (vs 5) = .string nm := hD 5 (by kernel_rfl)
        have h12 : (vs 12) = .string na := hD 12 (by kernel_rfl)
        rw [h3, h5, h12]
        go_simp
        exact hK _ _ _ (by simp only [inv.dstsL, inv.putT, Nat.reduceAdd, List.set_cons_zero, List.set_cons_succ, h3, h5, h12]; (try rfl)) (hS.trans ((below_box W _).mono (bsz2 hS))) (StrsAt.built W _ _ 3 _ (bsz2 hS) rfl (by decide) (by simp [bs_of])) (DDl.kept (below_box W _))
      · simp only [inv.dstsL, inv.putT, Nat.reduceAdd, List.set_cons_zero, List.set_cons_succ]
        have h13 : StrsAt W (w.heap.size + 2) (vs 13) [kw k, nm.data.toList, na.data.toList] := hD 13 (by kernel_rfl)
        go_simp
        exact hK _ _ _ (by simp only [inv.dstsL, inv.putT, Nat.reduceAdd, List.set_cons_zero, List.set_cons_succ]; (try rfl)) (hS) (h13) (fun _ _ h => h)
    case rest =>
      intro vs W done hdone hS hD
      have h14 : StrsAt W (w.heap.size + 2) (vs 14) [kw k, nm.data.toList, na.data.toList] := hD 14 (by decide)
      simp only [inv.dstsL, inv.putT, Nat.reduceAdd, List.set_cons_zero, List.set_cons_succ]
      obtain ⟨d0, d1, d2, d3, d4, -⟩ := DV.out W hS
      obtain ⟨n0, n1, -⟩ := NT.out W hS
      have B1 := Lib.hid hS
      have T1 := Lib.hid (HT.out W hS)
      have OW : W.ownsRow (w.heap.size + 2) 9 1 (vs 14) 3 ([kw k, nm.data.toList, na.data.toList].map fun l => Value.string (bs l)) := h14
      have hw1 := bsz2 hS
      generalize vs 0 = y0, vs 1 = y1, vs 2 = y2, vs 3 = y3, vs 4 = y4, vs 5 = y5, vs 6 = y6, vs 7 = y7, vs 8 = y8, vs 9 = y9, vs 10 = y10, vs 11 = y11, vs 12 = y12, vs 13 = y13, vs 14 = y14 at *
      clear hD hdone h14
      go_wp2_with fail
      refine (JO.out W).mono ?_; rintro e1 W1 ⟨rfl, rfl⟩
      have c9 := CB.out W hS
      clear hS
      go_wp2_with (at_builtin; go_must (refine wpList_append_own _ rfl _ _ 37 rfl (w.heap.size + 2) 9 i0 (.string ByteArray.empty) 1 16 Tryd.underlying37 hi hz0 hz1 hz2 rfl (by decide) _ _ _ rfl (World.ownsRow.alloc OW _) ⟨W.heap.size, 0, none⟩ 1 1 [.string nb] rfl rfl (cell_one_new _ _ _) (fun x hx => by simp at hx; subst hx; rfl) (by decide) (by decide) (by simp; omega) ?_); intro v5 W5 hown5 hgrow5 _; have B5 := Lib.hid ((B1.out.alloc hw1 _).grown hgrow5 (by simp; omega) (fun k hk => (World.ownsRow.lt OW k hk).1)); have S5 := Lib.hid (StrsAt.push (xs := [kw k, nm.data.toList, na.data.toList]) (x := nb.data.toList) (by rw [bs_of]; exact hown5)); clear d0 d1 d2 d3 d4 n0 n1 c9; obtain ⟨-, -, -, -, d4, -⟩ := DV.out W5 B5.out)
      clear hown5 hgrow5 OW T1 B1
      have hw5 := bsz2 B5.out
      have OW5 : W5.ownsRow (w.heap.size + 2) 9 1 v5 4 (([kw k, nm.data.toList, na.data.toList] ++ [nb.data.toList]).map fun l => Value.string (bs l)) := S5.out
      have TX := Lib.hid (text_any co W5 (HT.out W5 B5.out).tabs hc.1 hc.2)
      go_wp2_with fail
      refine TX.out.mono ?_; rintro e2 W6 ⟨rfl, b6⟩
      have B6 := Lib.hid (B5.out.trans (b6.mono hw5))
      have OW6 : W6.ownsRow (w.heap.size + 2) 9 1 v5 4 (([kw k, nm.data.toList, na.data.toList] ++ [nb.data.toList]).map fun l => Value.string (bs l)) := StrsAt.below (xs := ([kw k, nm.data.toList, na.data.toList] ++ [nb.data.toList])) OW5 b6
      have hw6 := bsz2 B6.out
      clear b6 OW5 d4
      go_wp2_with (at_builtin; go_must (refine wpList_append_own _ rfl _ _ 37 rfl (w.heap.size + 2) 9 i0 (.string ByteArray.empty) 1 16 Tryd.underlying37 hi hz0 hz1 hz2 rfl (by decide) _ _ _ rfl (World.ownsRow.alloc OW6 _) ⟨W6.heap.size, 0, none⟩ 2 2 [.string (bs wCom), .string (bs (Lib.itoa co))] rfl rfl (cell_two _ _ _ _) (fun x hx => by simp at hx; rcases hx with rfl | rfl <;> rfl) (by decide) (by decide) (by simp; omega) ?_); intro v7 W7 hown7 hgrow7 _)
      have S7 := Lib.hid (StrsAt.push_many (xs := ([kw k, nm.data.toList, na.data.toList] ++ [nb.data.toList])) (ys := [wCom, Lib.itoa co]) hown7)
      have B7 := Lib.hid ((B6.out.alloc hw6 _).grown hgrow7 (by simp; omega) (fun k hk => (World.ownsRow.lt OW6 k hk).1))
      clear hown7 hgrow7 OW6
      go_wp2_with fail
      refine (lineOf_is S7.out hw.out).mono ?_; rintro e3 W8 ⟨rfl, b8⟩
      have BF := Lib.hid (BX.out.trans ((B7.out.trans (b8.mono (bsz2 B7.out))).mono (by omega)))
      clear b8
      go_wp2
      go_ret
      exact ⟨rfl, BF.out⟩
  · rw [if_neg (by omega)]
    clear CA hns hb
    have hw : Hid (wsum [kw k, nm.data.toList, na.data.toList, wCom, Lib.itoa co] ≤ 140737488355328) := by
      show wsum _ ≤ _
      simp only [wsum_cons, wsum_nil]
      omega
    have JO := Lib.hid (fun W => joins_is (k : Int) false (decide_eq_false (by omega)) W)
    go_enter Tryd.func29, Tryd.ntmps29
    go_wp2_with fail
    refine inv.wp_region_inv (fun _ W => Below (w.heap.size + 2) ((w.alloc (.cells #[.slice (some ⟨g, o, none⟩) N c, .slice b M e] 26)).alloc (.cells #[.string nm, .int .i64 (k : Int), .int .i64 (A : Int), .int .i64 db, .int .i64 co] 47)) W) (DDl w.heap.size g o N c k A nm na) (by kernel_rfl) (by kernel_rfl) (Below.refl _ _).drew ?steps ?rest
    case steps =>
      refine ⟨fun vs W done hS hD hno K hK => ?_, fun vs W done hS hD hno K hK => ?_, fun vs W done hS hD hno K hK => ?_, fun vs W done hS hD hno K hK => ?_, fun vs W done hS hD hno K hK => ?_, fun vs W done hS hD hno K hK => ?_, fun vs W done hS hD hno K hK => ?_, fun vs W done hS hD hno K hK => ?_, fun vs W done hS hD hno K hK => ?_, fun vs W done hS hD hno K hK => ?_, fun vs W done hS hD hno K hK => ?_, fun vs W done hS hD hno K hK => ?_, fun vs W done hS hD hno K hK => ?_, fun vs W done hS hD hno K hK => ?_, fun vs W done hS hD hno K hK => ?_, trivial⟩
      · simp only [inv.dstsL, inv.putT, Nat.reduceAdd, List.set_cons_zero, List.set_cons_succ]
        go_simp
        exact hK _ _ _ (by simp only [inv.dstsL, inv.putT, Nat.reduceAdd, List.set_cons_zero, List.set_cons_succ]; (try rfl)) (hS) (rfl) (fun _ _ h => h)
      · simp only [inv.dstsL, inv.putT, Nat.reduceAdd, List.set_cons_zero, List.set_cons_succ]
        have h0 : (vs 0) = .pointer (some ⟨w.heap.size + 1, 1, none⟩) := hD 0 (by kernel_rfl)
        have c0 := (DV.out W hS).2.1
        rw [h0]
        go_simp
        exact hK _ _ _ (by simp only [inv.dstsL, inv.putT, Nat.reduceAdd, List.set_cons_zero, List.set_cons_succ, h0]; (try rfl)) (hS) (rfl) (fun _ _ h => h)
      · simp only [inv.dstsL, inv.putT, Nat.reduceAdd, List.set_cons_zero, List.set_cons_succ]
        have h1 : (vs 1) = .int .i64 (k : Int) := hD 1 (by kernel_rfl)
        have hk7 : (k : Int) < 7 := by omega
        rw [h1]
        go_simp
        exact hK _ _ _ (by simp only [inv.dstsL, inv.putT, Nat.reduceAdd, List.set_cons_zero, List.set_cons_succ, h1]; (try rfl)) (hS) (rfl) (fun _ _ h => h)
      · simp only [inv.dstsL, inv.putT, Nat.reduceAdd, List.set_cons_zero, List.set_cons_succ]
        have h2 : (vs 2) = .pointer (some ⟨0, k, none⟩) := hD 2 (by kernel_rfl)
        have c0 := (HT.out W hS).kinds k hk6
        rw [h2]
        go_simp
        exact hK _ _ _ (by simp only [inv.dstsL, inv.putT, Nat.reduceAdd, List.set_cons_zero, List.set_cons_succ, h2]; (try rfl)) (hS) (rfl) (fun _ _ h => h)
      · simp only [inv.dstsL, inv.putT, Nat.reduceAdd, List.set_cons_zero, List.set_cons_succ]
        go_simp
        exact hK _ _ _ (by simp only [inv.dstsL, inv.putT, Nat.reduceAdd, List.set_cons_zero, List.set_cons_succ]; (try rfl)) (hS) (rfl) (fun _ _ h => h)
      · simp only [inv.dstsL, inv.putT, Nat.reduceAdd, List.set_cons_zero, List.set_cons_succ]
        have h4 : (vs 4) = .pointer (some ⟨w.heap.size + 1, 0, none⟩) := hD 4 (by kernel_rfl)
        have c0 := (DV.out W hS).1
        rw [h4]
        go_simp
        exact hK _ _ _ (by simp only [inv.dstsL, inv.putT, Nat.reduceAdd, List.set_cons_zero, List.set_cons_succ, h4]; (try rfl)) (hS) (rfl) (fun _ _ h => h)
      · simp only [inv.dstsL, inv.putT, Nat.reduceAdd, List.set_cons_zero, List.set_cons_succ]
        go_simp
        exact hK _ _ _ (by simp only [inv.dstsL, inv.putT, Nat.reduceAdd, List.set_cons_zero, List.set_cons_succ]; (try rfl)) (hS) (rfl) (fun _ _ h => h)
      · simp only [inv.dstsL, inv.putT, Nat.reduceAdd, List.set_cons_zero, List.set_cons_succ]
        have h6 : (vs 6) = .pointer (some ⟨w.heap.size, 0, none⟩) := hD 6 (by kernel_rfl)
        have c0 := (NT.out W hS).1
        rw [h6]
        go_simp
        exact hK _ _ _ (by simp only [inv.dstsL, inv.putT, Nat.reduceAdd, List.set_cons_zero, List.set_cons_succ, h6]; (try rfl)) (hS) (rfl) (fun _ _ h => h)
      · simp only [inv.dstsL, inv.putT, Nat.reduceAdd, List.set_cons_zero, List.set_cons_succ]
        go_simp
        exact hK _ _ _ (by simp only [inv.dstsL, inv.putT, Nat.reduceAdd, List.set_cons_zero, List.set_cons_succ]; (try rfl)) (hS) (rfl) (fun _ _ h => h)
      · simp only [inv.dstsL, inv.putT, Nat.reduceAdd, List.set_cons_zero, List.set_cons_succ]
        have h8 : (vs 8) = .pointer (some ⟨w.heap.size + 1, 2, none⟩) := hD 8 (by kernel_rfl)
        have c0 := (DV.out W hS).2.2.1
        rw [h8]
        go_simp
        exact hK _ _ _ (by simp only [inv.dstsL, inv.putT, Nat.reduceAdd, List.set_cons_zero, List.set_cons_succ, h8]; (try rfl)) (hS) (rfl) (fun _ _ h => h)
      · simp only [inv.dstsL, inv.putT, Nat.reduceAdd, List.set_cons_zero, List.set_cons_succ]
        have h7 : (vs 7) = .slice (some ⟨g, o, none⟩) N c := hD 7 (by kernel_rfl)
        have h9 : (vs 9) = .int .i64 (A : Int) := hD 9 (by kernel_rfl)
        rw [h7, h9]
        go_simp
        exact hK _ _ _ (by simp only [inv.dstsL, inv.putT, Nat.reduceAdd, List.set_cons_zero, List.set_cons_succ, h7, h9]; (try rfl)) (hS) (rfl) (fun _ _ h => h)
      · simp only [inv.dstsL, inv.putT, Nat.reduceAdd, List.set_cons_zero, List.set_cons_succ]
        have h10 : (vs 10) = .pointer (some ⟨g, o + A * 3, none⟩) := hD 10 (by kernel_rfl)
        rw [h10]
        go_simp
        exact hK _ _ _ (by simp only [inv.dstsL, inv.putT, Nat.reduceAdd, List.set_cons_zero, List.set_cons_succ, h10]; (try rfl)) (hS) (rfl) (fun _ _ h => h)
      · simp only [inv.dstsL, inv.putT, Nat.reduceAdd, List.set_cons_zero, List.set_cons_succ]
        have h11 : (vs 11) = .pointer (some ⟨g, o + A * 3, none⟩) := hD 11 (by kernel_rfl)
        have c0 := CN.out W hS
        rw [h11]
        go_simp
        exact hK _ _ _ (by simp only [inv.dstsL, inv.putT, Nat.reduceAdd, List.set_cons_zero, List.set_cons_succ, h11]; (try rfl)) (hS) (rfl) (fun _ _ h => h)
      · simp only [inv.dstsL, inv.putT, Nat.reduceAdd, List.set_cons_zero, List.set_cons_succ]
        have h3 : (vs 3) = .string (bs (kw k)) := hD 3 (by kernel_rfl)
        have h5 : (vs 5) = .string nm := hD 5 (by kernel_rfl)
        have h12 : (vs 12) = .string na := hD 12 (by kernel_rfl)
        rw [h3, h5, h12]
        go_simp
        exact hK _ _ _ (by simp only [inv.dstsL, inv.putT, Nat.reduceAdd, List.set_cons_zero, List.set_cons_succ, h3, h5, h12]; (try rfl)) (hS.trans ((below_box W _).mono (bsz2 hS))) (StrsAt.built W _ _ 3 _ (bsz2 hS) rfl (by decide) (by simp [bs_of])) (DDl.kept (below_box W _))
      · simp only [inv.dstsL, inv.putT, Nat.reduceAdd, List.set_cons_zero, List.set_cons_succ]
        have h13 : StrsAt W (w.heap.size + 2) (vs 13) [kw k, nm.data.toList, na.data.toList] := hD 13 (by kernel_rfl)
        go_simp
        exact hK _ _ _ (by simp only [inv.dstsL, inv.putT, Nat.reduceAdd, List.set_cons_zero, List.set_cons_succ]; (try rfl)) (hS) (h13) (fun _ _ h => h)
    case rest =>
      intro vs W done hdone hS hD
      have h14 : StrsAt W (w.heap.size + 2) (vs 14) [kw k, nm.data.toList, na.data.toList] := hD 14 (by decide)
      simp only [inv.dstsL, inv.putT, Nat.reduceAdd, List.set_cons_zero, List.set_cons_succ]
      obtain ⟨d0, d1, d2, d3, d4, -⟩ := DV.out W hS
      obtain ⟨n0, n1, -⟩ := NT.out W hS
      have B1 := Lib.hid hS
      have T1 := Lib.hid (HT.out W hS)
      have OW : W.ownsRow (w.heap.size + 2) 9 1 (vs 14) 3 ([kw k, nm.data.toList, na.data.toList].map fun l => Value.string (bs l)) := h14
      have hw1 := bsz2 hS
      generalize vs 0 = y0, vs 1 = y1, vs 2 = y2, vs 3 = y3, vs 4 = y4, vs 5 = y5, vs 6 = y6, vs 7 = y7, vs 8 = y8, vs 9 = y9, vs 10 = y10, vs 11 = y11, vs 12 = y12, vs 13 = y13, vs 14 = y14 at *
      clear hD hdone h14
      go_wp2_with fail
      refine (JO.out W).mono ?_; rintro e1 W1 ⟨rfl, rfl⟩
      clear hS d0 d1 d2 d3 n0 n1
      have TX := Lib.hid (text_any co W T1.out.tabs hc.1 hc.2)
      have B5 := B1
      have hw5 := hw1
      have OW5 := OW
      go_wp2_with fail
      refine TX.out.mono ?_; rintro e2 W6 ⟨rfl, b6⟩
      have B6 := Lib.hid (B5.out.trans (b6.mono hw5))
      have OW6 : W6.ownsRow (w.heap.size + 2) 9 1 y14 3 ([kw k, nm.data.toList, na.data.toList].map fun l => Value.string (bs l)) := StrsAt.below (xs := [kw k, nm.data.toList, na.data.toList]) OW5 b6
      have hw6 := bsz2 B6.out
      clear b6 OW5 d4
      go_wp2_with (at_builtin; go_must (refine wpList_append_own _ rfl _ _ 37 rfl (w.heap.size + 2) 9 i0 (.string ByteArray.empty) 1 16 Tryd.underlying37 hi hz0 hz1 hz2 rfl (by decide) _ _ _ rfl (World.ownsRow.alloc OW6 _) ⟨W6.heap.size, 0, none⟩ 2 2 [.string (bs wCom), .string (bs (Lib.itoa co))] rfl rfl (cell_two _ _ _ _) (fun x hx => by simp at hx; rcases hx with rfl | rfl <;> rfl) (by decide) (by decide) (by simp; omega) ?_); intro v7 W7 hown7 hgrow7 _)
      have S7 := Lib.hid (StrsAt.push_many (xs := [kw k, nm.data.toList, na.data.toList]) (ys := [wCom, Lib.itoa co]) hown7)
      have B7 := Lib.hid ((B6.out.alloc hw6 _).grown hgrow7 (by simp; omega) (fun k hk => (World.ownsRow.lt OW6 k hk).1))
      clear hown7 hgrow7 OW6
      go_wp2_with fail
      refine (lineOf_is S7.out hw.out).mono ?_; rintro e3 W8 ⟨rfl, b8⟩
      have BF := Lib.hid (BX.out.trans ((B7.out.trans (b8.mono (bsz2 B7.out))).mono (by omega)))
      clear b8
      go_wp2
      go_ret
      exact ⟨rfl, BF.out⟩
end Go.Proofs.YtdgllaiejhnjmaaDoor.mod
