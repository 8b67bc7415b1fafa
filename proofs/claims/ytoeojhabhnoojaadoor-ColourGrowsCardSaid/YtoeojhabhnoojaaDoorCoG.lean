/- For every list of numbers ColourGrows returns true: closing a device takes no colour from a node and joins at most two parts; opening it leads back. Conditions: the tables 'classes' and 'flags' hold what their texts lay (the card ties that). -/
import Derived.Test.YtoeojhabhnoojaaDoorCoS
namespace Go.Proofs.YtoeojhabhnoojaaDoor.col
open Go.RowKit Go.Maps lex aggs kit net deck msk

theorem and_sub {A B : Int} (ha : 0 ≤ A ∧ A ≤ 3) (hb : 0 ≤ B ∧ B ≤ 3) (h1 : b1 A = true → b1 B = true) (h2 : b2 A = true → b2 B = true) : (bits BinOp.and IntKind.i64 A B != A) = false := by
  rcases four ha with rfl | rfl | rfl | rfl <;> rcases four hb with rfl | rfl | rfl | rfl <;> revert h1 h2 <;> decide +kernel
/-- what one more closed device does -/
structure Grew (ds : List Dv) (S T : List Int) (j N : Nat) : Prop where
  col : ∀ v, (bits BinOp.and IntKind.i64 (colr ds S v) (colr ds T v) != colr ds S v) = false
  le : ∀ v, pt ds T v ≤ pt ds S v
  cnt : cnt (pt ds T) N + (if joinB (dK ds j) = true ∧ pt ds S (dA ds j) ≠ pt ds S (dB ds j) then 1 else 0) = cnt (pt ds S) N
theorem cnt_congr {p q : Nat → Nat} (h : ∀ v, p v = q v) (n : Nat) : cnt p n = cnt q n := by
  obtain rfl : p = q := funext h
  rfl
theorem grew {ds : List Dv} {S T : List Int} {j N : Nat} (hj : j < ds.length) (hn : ∀ i, i < ds.length → i ≠ j → at0 S i = at0 T i) (h1 : at0 S j ≠ 2) (h2 : at0 T j = 2) (hab : joinB (dK ds j) = true → dA ds j < N ∧ dB ds j < N) : Grew ds S T j N := by
  have hsub : Sub ds S T := fun i hi h => by
    by_cases e : i = j
    · subst e; exact h2
    · rw [← hn i hi e]; exact h
  refine ⟨fun v => and_sub (colr_in _ _ _) (colr_in _ _ _) hsub.live hsub.earth, hsub.le, ?_⟩
  have hp := pt_more hj hn h1 h2
  by_cases hk : joinB (dK ds j) = true
  · have e : ∀ v, pt ds T v = mrg (pt ds S) (dA ds j) (dB ds j) v := fun v => by rw [hp v, if_pos hk]
    rw [cnt_congr e]
    by_cases hne : pt ds S (dA ds j) = pt ds S (dB ds j)
    · rw [if_neg (fun h => h.2 hne), cnt_congr (fun v => mrg_same hne)]; rfl
    · rw [if_pos ⟨hk, hne⟩]
      exact cnt_mrg (pt_le ds S) (pt_idem ds S) (hab hk).1 (hab hk).2 hne
  · have e : ∀ v, pt ds T v = pt ds S v := fun v => by rw [hp v, if_neg hk]
    rw [cnt_congr e, if_neg (fun h => hk h.1)]; rfl
theorem cnt_succ (p : Nat → Nat) (v : Nat) : cnt p (v + 1) = cnt p v + if p v = v then 1 else 0 := by
  unfold cnt; rw [ct]
  by_cases h : p v = v
  · simp [h]
  · simp [h]
theorem cnt_le (p : Nat → Nat) (v : Nat) : cnt p v ≤ v := ct_le _ _
theorem set_pos {S : List Int} {q : Nat} {z : Int} (h : ∀ s ∈ S, 1 ≤ s ∧ s ≤ 2) (hz : 1 ≤ z ∧ z ≤ 2) : ∀ s ∈ S.set q z, 1 ≤ s ∧ s ≤ 2 := by
  intro s hs
  rcases List.mem_or_eq_of_mem_set hs with h1 | rfl
  · exact h s h1
  · exact hz
set_option maxRecDepth 100000 in
set_option maxHeartbeats 16000000 in
theorem grows_walk (la : Option Addr) (len cap : Nat) (zs : List Int) (W0 : World) (hr : IsRow .i64 W0 la len cap zs) (h : STabs W0) :
    Calls Tryd.prog 5 #[.slice la len cap] W0 fun e w' => e = .returned (.bool true) ∧ Below W0.heap.size W0 w' := by
  have hl : len ≤ 9223372036854775807 := by
    rcases hr with ⟨_, h, _⟩ | ⟨_, _, h1, h2, _⟩
    · omega
    · unfold maxLen at h2; omega
  have H0 := Lib.hid h
  have HR := Lib.hid hr
  clear h hr
  by_cases h4 : len ≤ 400
  · have t1 : decide ((len : Int) ≤ 400) = true := decide_eq_true (by omega)
    go_enter Tryd.func5, Tryd.ntmps5
    go_wp2_with fail
    refine (few_any _ _ _ _ hl).mono ?_; rintro e w' ⟨rfl, rfl⟩
    go_wp2_with fail
    refine (newg_any _ _ _ _).mono ?_; rintro e w1 ⟨rfl, g1⟩
    have hbw := g1.lt
    obtain ⟨bd, hbd⟩ : ∃ b, W0.heap.size = b := ⟨_, rfl⟩
    have HB := Lib.hid hbd
    rw [hbd] at hbw g1 ⊢
    clear hbd h4 t1 hl
    go_wp2_with fail
    refine (network_is (nodes := 7) (devices := 12) g1 HR.out (by decide) (by decide) (by decide) (by decide)).mono ?_
    rintro e W2 ⟨vn, vd, ns, ds, rfl, g2, rn, rdd, gn, gd, n1, n2, d1, d2⟩
    obtain ⟨an, cn, ad, cd, rfl, rfl, ni, z1, z2⟩ := rows_net rn rdd (by omega) gn gd hbw
    obtain ⟨N, hN⟩ : ∃ N, ns.length = N := ⟨_, rfl⟩
    obtain ⟨M, hM⟩ : ∃ M, ds.length = M := ⟨_, rfl⟩
    have CHK := Lib.hid (good_chk (by omega) (by omega) gn gd)
    rw [hN] at n1 n2 ni ⊢
    rw [hM] at d1 d2 ni ⊢
    have bx := below_box W2 (.cells #[.slice an N cn, .slice ad M cd] 26)
    have NT := Lib.hid (NtAt.new W2 (.slice an N cn) (.slice ad M cd) 26)
    have G3 := Lib.hid (g2.alloc (.cells #[.slice an N cn, .slice ad M cd] 26))
    have NF3 : Hid (NF (W2.alloc (.cells #[.slice an N cn, .slice ad M cd] 26)) bd an ad N cn M cd ns ds) := ⟨ni.below bx, z1, z2⟩
    have hb2 := g2.lt
    obtain ⟨g, hg⟩ : ∃ g, W2.heap.size = g := ⟨_, rfl⟩
    rw [hg] at NT hb2
    obtain ⟨W3, hW3⟩ : ∃ W3, W2.alloc (.cells #[.slice an N cn, .slice ad M cd] 26) = W3 := ⟨_, rfl⟩
    have hs3 : W3.heap.size = g + 1 := by rw [← hW3, World.size_alloc, hg]
    rw [hW3] at NT G3 NF3
    have hgb : g ≠ bd := by omega
    have k1 := NT.out.1
    have k2 := NT.out.2.1
    have gm0 := G3.out
    have gr0 := gb_refl W3 (some bd)
    have HDM := Lib.hid hM
    have HDN := Lib.hid hN
    have h64 : M ≤ 64 := by omega
    have h32 : N ≤ 32 := by omega
    clear rn rdd gn gd hN hM ni z1 z2 g1 g2 hbw bx
    go_wp2_with fail
    (try rw [hW3])
    clear hW3 hg
    refine (state_is gm0 HR.out an ad N cn M cd ns ds (NF3.out.keep2 gr0) h64).mono ?_
    rintro e w4 ⟨v, S, rfl, own, hS, hSa, gm4, gb4⟩
    obtain ⟨aS, cS, rfl, lS, lSo⟩ := own.lin
    rw [hS] at own lS ⊢
    have c0 := gb_cell k1 gb4 hgb
    have c1 := gb_cell k2 gb4 hgb
    have hbS := gb4.size
    rw [hs3] at hbS
    obtain ⟨gs, rfl, -, hs4, hs5, -, hs7, -⟩ := own.some (by omega)
    unfold maxLen at hs7
    have NIX := Lib.hid NF3.out.1
    have NI4 := Lib.hid (NF3.out.keep gb4)
    have NF4 := Lib.hid (NF3.out.keep2 gb4)
    have OW := Lib.hid own
    have HS := Lib.hid hS
    have HSA := Lib.hid hSa
    have k1 := c0
    have k2 := c1
    have lt4 := gm4.lt
    have szb : bd < W3.heap.size := by omega
    clear lS lSo own hS hSa gm0 gr0 NT G3 c0 c1
    go_wp2_with fail
    refine (gm4.next HR.out (M : Int) (by omega)).mono ?_
    rintro e w5 ⟨r2, rfl, r20, r21, gm5, gb5⟩
    obtain ⟨q, rfl⟩ : ∃ q : Nat, r2 = q := ⟨r2.toNat, by omega⟩
    have hq : q < M := by omega
    have OW5 : Hid (OwnI w5 W3.heap.size (.slice (some ⟨gs, 0, none⟩) M cS) S) := OwnI.gr OW.out gb5 (fun j hj => by cases hj; exact szb)
    have NI5 := Lib.hid (NF4.out.keep gb5)
    have k1 := gb_cell k1 gb5 hgb
    have k2 := gb_cell k2 gb5 hgb
    have hz5 := gb5.size
    have B5 := Lib.hid gm5.below
    obtain ⟨gs', e9, hl5, -, hs6, -, -, q5⟩ := OW5.out.some (by omega)
    cases e9
    obtain ⟨d0, f0⟩ := q5 q hq
    have st := OW5.out.set hl5 q hq 1
    have hgs : g ≠ gs := by omega
    have NI6 := Lib.hid (NF.keep ⟨NI5.out, NetIn.nf NIX.out hs4⟩ st.2)
    have m1 := gb_cell k1 st.2 hgs
    have m2 := gb_cell k2 st.2 hgs
    have B6 := Lib.hid (B5.out.grown st.2 B5.out.size (fun j hj => by cases hj; have := HB.out; omega))
    have OW6 := Lib.hid st.1
    obtain ⟨x6, hx6⟩ : ∃ x, w5.setCell ⟨gs, q, none⟩ (.int .i64 1) = x := ⟨_, rfl⟩
    have z6 : x6.heap.size = w5.heap.size := by rw [← hx6]; simp
    rw [hx6] at NI6 m1 m2 B6 OW6
    clear st q5 OW5 NI5 k1 k2 gm5 gb5 gm4 gb4 OW NI4 NF4
    obtain ⟨a9, c9, he9, l6, -⟩ := OW6.out.lin
    rw [List.length_set, HS.out] at he9 l6
    cases he9
    have L6 := Lib.hid l6
    clear l6
    go_wp2_with (at_builtin; go_must (refine wpList_append_lin rfl (.tmp 39) rfl rfl L6.out (by omega) ?_; intro a7 c7 w7 own7 gr7; have OWN7 := Lib.hid own7; have OW6 : Hid (OwnI w7 W3.heap.size (.slice (some ⟨gs, 0, none⟩) M cS) (S.set q 1)) := OwnI.gr OW6.out gr7 (fun k hk => by cases hk); have B7 := Lib.hid ((Below.refl x6.heap.size x6).grown gr7 (Nat.le_refl _) (fun k hk => by cases hk)); obtain ⟨gt, rfl, hl7, ht1, ht2, ht3, ht4, q7⟩ := own7.some (by omega); obtain ⟨d1, f1⟩ := q7 q hq; have hz7 := gr7.size; have st7 := Lib.hid (OwnI.set OWN7.out hl7 q hq 2); have hgt : g ≠ gt := (by omega); have m1 := gb_cell (B7.out.cell (p := ⟨g, 0, none⟩) (show g < x6.heap.size by omega) |>.trans m1) st7.out.2 hgt; have m2 := gb_cell (B7.out.cell (p := ⟨g, 1, none⟩) (show g < x6.heap.size by omega) |>.trans m2) st7.out.2 hgt; clear own7 gr7 q7))
    have B8 := Lib.hid ((B6.out.trans (B7.out.mono B6.out.size)).grown st7.out.2 (B6.out.trans (B7.out.mono B6.out.size)).size (fun j hj => by cases hj; have := HB.out; omega))
    have OT := Lib.hid st7.out.1
    have OS : Hid (OwnI (w7.setCell ⟨gt, q, none⟩ (.int .i64 2)) W3.heap.size (.slice (some ⟨gs, 0, none⟩) M cS) (S.set q 1)) := OwnI.but OW6.out st7.out.2 (by omega)
    have NI8 := Lib.hid (NF.keep ⟨NI6.out.below B7.out, NetIn.nf NI6.out (k := gt) ht1⟩ st7.out.2)
    generalize w7.setCell ⟨gt, q, none⟩ (.int .i64 2) = w8 at *
    obtain ⟨a9, c9, he9, lT, -⟩ := OT.out.lin
    rw [List.length_set, List.length_set, HS.out] at he9 lT
    cases he9
    obtain ⟨a9, c9, he9, lS, -⟩ := OS.out.lin
    rw [List.length_set, HS.out] at he9 lS
    cases he9
    have HT := Lib.hid (fun wr (b : Below w8.heap.size w8 wr) => H0.out.below (B8.out.trans (b.mono B8.out.size)))
    have NI := Lib.hid (fun wr (b : Below w8.heap.size w8 wr) => NI8.out.below b)
    have LS := Lib.hid (fun wr (b : Below w8.heap.size w8 wr) => lS.below b)
    have LT := Lib.hid (fun wr (b : Below w8.heap.size w8 wr) => lT.below b)
    have C0 := Lib.hid (fun wr (b : Below w8.heap.size w8 wr) => (b.cell (p := ⟨g, 0, none⟩) (World.block_lt_of_cell? w8 _ m1)).trans m1)
    have C1 := Lib.hid (fun wr (b : Below w8.heap.size w8 wr) => (b.cell (p := ⟨g, 1, none⟩) (World.block_lt_of_cell? w8 _ m2)).trans m2)
    have hST : (S.set q 1).set q 2 = S.set q 2 := List.set_set ..
    rw [hST] at LT
    have hl1 : (S.set q 1).length = ds.length := by rw [List.length_set, HS.out, HDM.out]
    have hl2 : (S.set q 2).length = ds.length := by rw [List.length_set, HS.out, HDM.out]
    have CS := Lib.hid (pos_chk CHK.out hl1 (set_pos (q := q) HSA.out (by decide)))
    have CT := Lib.hid (pos_chk CHK.out hl2 (set_pos (q := q) HSA.out (by decide)))
    have hqS : q < S.length := by rw [HS.out]; exact hq
    have hqD : q < ds.length := by rw [HDM.out]; exact hq
    have its := chk_its CHK.out q hqD
    rw [HDN.out] at its
    have e4 : ds.getD q default = ds[q] := by simp [List.getD_eq_getElem?_getD, hqD]
    have GR := Lib.hid (grew (ds := ds) (S := S.set q 1) (T := S.set q 2) (j := q) (N := N) hqD (fun i hi e => by rw [at_set _ hqS, at_set _ hqS, if_neg e, if_neg e]) (by rw [at_set _ hqS, if_pos rfl]; decide) (by rw [at_set _ hqS, if_pos rfl]) (fun hk => by
      have hk2 := of_decide_eq_true hk
      obtain ⟨p1, p2⟩ := itsB_parts its
      unfold dK at hk2
      unfold dA dB
      omega))
    obtain ⟨D, hD⟩ : ∃ D, S.set q 1 = D := ⟨_, rfl⟩
    obtain ⟨F, hF⟩ : ∃ F, S.set q 2 = F := ⟨_, rfl⟩
    rw [hD] at LS CS GR
    rw [hF] at LT CT GR
    have ITS := Lib.hid its
    have E4 := Lib.hid e4
    unfold maxLen at ht4
    have nin := NI8.out
    have n3 := nin.ncap
    have n4 := nin.nmax
    have n5 := nin.dcap
    have n6 := nin.dmax
    unfold maxLen at n4 n6
    clear nin lS lT OT OS NI8 NI6 OW6 OWN7 st7 B7 B6 m1 m2 d0 f0 d1 f1 hl1 hl2 hqS its e4 hST hD hF L6 NIX
    have m1 := C0.out _ (Below.refl _ _)
    have m2 := C1.out _ (Below.refl _ _)
    go_wp2_with fail
    refine (Colours_is an ad _ N cn M cd M cS ns ds D 0 _ (HT.out _ (Below.refl _ _)) (NI.out _ (Below.refl _ _)) (LS.out _ (Below.refl _ _)) CS.out).mono ?_
    rintro e x1 ⟨v, rfl, own, b1⟩
    rw [if_pos rfl] at own
    obtain ⟨aA, cA, rfl, lA, -⟩ := own.lin
    rw [coL_len] at lA ⊢
    have LA := Lib.hid (fun x (b : Below x1.heap.size x1 x) => lA.below b)
    have hcap_LA := lA.cap
    have hmax_LA := lA.max
    have Ex1 := Lib.hid b1
    have m1 := C0.out _ Ex1.out
    have m2 := C1.out _ Ex1.out
    unfold maxLen at hmax_LA
    clear own lA b1
    go_wp2_with fail
    refine (Colours_is an ad _ N cn M cd M c7 ns ds F 0 _ (HT.out _ Ex1.out) (NI.out _ Ex1.out) (LT.out _ Ex1.out) CT.out).mono ?_
    rintro e x2 ⟨v, rfl, own, b1⟩
    rw [if_pos rfl] at own
    obtain ⟨aB, cB, rfl, lA, -⟩ := own.lin
    rw [coL_len] at lA ⊢
    have LA := Lib.hid (fun x (b : Below x2.heap.size x2 x) => LA.out _ (b1.trans (b.mono b1.size)))
    have LB := Lib.hid (fun x (b : Below x2.heap.size x2 x) => lA.below b)
    have hcap_LB := lA.cap
    have hmax_LB := lA.max
    have Ex2 := Lib.hid (Ex1.out.trans (b1.mono Ex1.out.size))
    have m1 := C0.out _ Ex2.out
    have m2 := C1.out _ Ex2.out
    unfold maxLen at hmax_LB
    clear own lA b1
    go_wp2_with fail
    refine (Parts_is an ad _ N cn M cd M cS ns ds D 0 _ (HT.out _ Ex2.out) (NI.out _ Ex2.out) (LS.out _ Ex2.out) CS.out).mono ?_
    rintro e x3 ⟨v, rfl, own, b1⟩
    rw [if_pos rfl] at own
    obtain ⟨aP, cP, rfl, lA, -⟩ := own.lin
    rw [ptL_len] at lA ⊢
    have LA := Lib.hid (fun x (b : Below x3.heap.size x3 x) => LA.out _ (b1.trans (b.mono b1.size)))
    have LB := Lib.hid (fun x (b : Below x3.heap.size x3 x) => LB.out _ (b1.trans (b.mono b1.size)))
    have LP := Lib.hid (fun x (b : Below x3.heap.size x3 x) => lA.below b)
    have hcap_LP := lA.cap
    have hmax_LP := lA.max
    have Ex3 := Lib.hid (Ex2.out.trans (b1.mono Ex2.out.size))
    have m1 := C0.out _ Ex3.out
    have m2 := C1.out _ Ex3.out
    unfold maxLen at hmax_LP
    clear own lA b1
    go_wp2_with fail
    refine (Parts_is an ad _ N cn M cd M c7 ns ds F 0 _ (HT.out _ Ex3.out) (NI.out _ Ex3.out) (LT.out _ Ex3.out) CT.out).mono ?_
    rintro e x4 ⟨v, rfl, own, b1⟩
    rw [if_pos rfl] at own
    obtain ⟨aQ, cQ, rfl, lA, -⟩ := own.lin
    rw [ptL_len] at lA ⊢
    have LA := Lib.hid (fun x (b : Below x4.heap.size x4 x) => LA.out _ (b1.trans (b.mono b1.size)))
    have LB := Lib.hid (fun x (b : Below x4.heap.size x4 x) => LB.out _ (b1.trans (b.mono b1.size)))
    have LP := Lib.hid (fun x (b : Below x4.heap.size x4 x) => LP.out _ (b1.trans (b.mono b1.size)))
    have LQ := Lib.hid (fun x (b : Below x4.heap.size x4 x) => lA.below b)
    have hcap_LQ := lA.cap
    have hmax_LQ := lA.max
    have Ex4 := Lib.hid (Ex3.out.trans (b1.mono Ex3.out.size))
    have m1 := C0.out _ Ex4.out
    have m2 := C1.out _ Ex4.out
    unfold maxLen at hmax_LQ
    clear own lA b1
    go_wp2_with fail
    clear m1 m2
    go_loopw [16, 17, 113] (fun x y i wr => ∃ v : Nat, v ≤ N ∧ i = .int .i64 v ∧ x = .int .i64 (cnt (pt ds D) v : Nat) ∧ y = .int .i64 (cnt (pt ds F) v : Nat) ∧ Hid (Below x4.heap.size x4 wr)) (fun _ _ i _ => N - (intOf i).toNat)
    case atStart => exact ⟨0, Nat.zero_le _, rfl, rfl, rfl, Below.refl _ _⟩
    case round =>
      obtain ⟨v, hv, rfl, rfl, rfl, bel⟩ := hrel
      by_cases hlt : v < N
      · obtain ⟨ga, oa, hae, -, hca⟩ := (LA.out _ bel.out).rin.some (by rw [coL_len]; omega)
        obtain ⟨gb, ob, hbe, -, hcb⟩ := (LB.out _ bel.out).rin.some (by rw [coL_len]; omega)
        obtain ⟨gp, op, hpe, -, hcp⟩ := (LP.out _ bel.out).rin.some (by rw [ptL_len]; omega)
        obtain ⟨gq, oq, hqe, -, hcq⟩ := (LQ.out _ bel.out).rin.some (by rw [ptL_len]; omega)
        have ra := cells_i hca v (by rw [coL_len]; exact hlt)
        have rb := cells_i hcb v (by rw [coL_len]; exact hlt)
        have rp := cells_i hcp v (by rw [ptL_len]; exact hlt)
        have rq := cells_i hcq v (by rw [ptL_len]; exact hlt)
        rw [coL_at hlt] at ra rb
        rw [ptL_at hlt] at rp rq
        have T1 := GR.out.col v
        have T2 : decide (pt ds D v < pt ds F v) = false := decide_eq_false (by have := GR.out.le v; omega)
        have y1 := Lib.hid (cnt_succ (pt ds D) v)
        have y2 := Lib.hid (cnt_succ (pt ds F) v)
        have z1 := cnt_le (pt ds D) v
        have z2 := cnt_le (pt ds F) v
        have NB := Lib.hid bel.out
        generalize colr ds D v = A at *
        generalize colr ds F v = B at *
        obtain ⟨X, hX⟩ : ∃ X, cnt (pt ds D) v = X := ⟨_, rfl⟩
        obtain ⟨Y, hY⟩ : ∃ Y, cnt (pt ds F) v = Y := ⟨_, rfl⟩
        rw [hX] at y1 z1
        rw [hY] at y2 z2
        rw [hX, hY]
        obtain ⟨P, hP⟩ : ∃ P, pt ds D v = P := ⟨_, rfl⟩
        obtain ⟨Q, hQ⟩ : ∃ Q, pt ds F v = Q := ⟨_, rfl⟩
        rw [hP] at T2 rp y1
        rw [hQ] at T2 rq y2
        subst hae
        subst hbe
        subst hpe
        subst hqe
        clear bel hX hY hP hQ hca hcb hcp hcq
        by_cases p1 : P = v
        · have U1 : ((P : Int) == (v : Int)) = true := by rw [p1]; exact beq_self_eq_true _
          have W1 : Hid (Value.int .i64 ((X : Int) + 1) = .int .i64 (cnt (pt ds D) (v + 1) : Nat)) := by show _ = _; rw [y1.out, if_pos p1]; rfl
          by_cases p2 : Q = v
          · have U2 : ((Q : Int) == (v : Int)) = true := by rw [p2]; exact beq_self_eq_true _
            have W2 : Hid (Value.int .i64 ((Y : Int) + 1) = .int .i64 (cnt (pt ds F) (v + 1) : Nat)) := by show _ = _; rw [y2.out, if_pos p2]; rfl
            clear p1 p2
            go_wp2
            go_quiet (fail)
            go_wp2
            go_roundw
            case rel => exact ⟨v + 1, by omega, by go_num, W1.out, W2.out, below_drewN NB.out _⟩
            case measure => simp [intOf]; omega
          · have U2 : ((Q : Int) == (v : Int)) = false := beq_eq_false_iff_ne.2 (by omega)
            have W2 : Hid (Value.int .i64 (Y : Int) = .int .i64 (cnt (pt ds F) (v + 1) : Nat)) := by show _ = _; rw [y2.out, if_neg p2]; rfl
            clear p1 p2
            go_wp2
            go_quiet (fail)
            go_wp2
            go_roundw
            case rel => exact ⟨v + 1, by omega, by go_num, W1.out, W2.out, below_drewN NB.out _⟩
            case measure => simp [intOf]; omega
        · have U1 : ((P : Int) == (v : Int)) = false := beq_eq_false_iff_ne.2 (by omega)
          have W1 : Hid (Value.int .i64 (X : Int) = .int .i64 (cnt (pt ds D) (v + 1) : Nat)) := by show _ = _; rw [y1.out, if_neg p1]; rfl
          by_cases p2 : Q = v
          · have U2 : ((Q : Int) == (v : Int)) = true := by rw [p2]; exact beq_self_eq_true _
            have W2 : Hid (Value.int .i64 ((Y : Int) + 1) = .int .i64 (cnt (pt ds F) (v + 1) : Nat)) := by show _ = _; rw [y2.out, if_pos p2]; rfl
            clear p1 p2
            go_wp2
            go_quiet (fail)
            go_wp2
            go_roundw
            case rel => exact ⟨v + 1, by omega, by go_num, W1.out, W2.out, below_drewN NB.out _⟩
            case measure => simp [intOf]; omega
          · have U2 : ((Q : Int) == (v : Int)) = false := beq_eq_false_iff_ne.2 (by omega)
            have W2 : Hid (Value.int .i64 (Y : Int) = .int .i64 (cnt (pt ds F) (v + 1) : Nat)) := by show _ = _; rw [y2.out, if_neg p2]; rfl
            clear p1 p2
            go_wp2
            go_quiet (fail)
            go_wp2
            go_roundw
            case rel => exact ⟨v + 1, by omega, by go_num, W1.out, W2.out, below_drewN NB.out _⟩
            case measure => simp [intOf]; omega
      · obtain rfl : v = N := by omega
        have E5 := Lib.hid (Ex4.out.trans (bel.out.mono Ex4.out.size))
        have m1 := C0.out _ E5.out
        have m2 := C1.out _ E5.out
        have z1 := cnt_le (pt ds D) v
        have z2 := cnt_le (pt ds F) v
        have CE := GR.out.cnt
        have LP := Lib.hid (LP.out _ bel.out)
        clear LA LB LQ bel
        obtain ⟨gg, o, hbe, hg1, hcd⟩ := (NI.out _ E5.out).din.some (by omega)
        have hqD : q < ds.length := by rw [HDM.out]; exact hq
        obtain ⟨c0, c1, c2, c3, c4⟩ := cells_dv hcd q hqD
        obtain ⟨e1, e2, e3⟩ := dev_at hqD
        have its := ITS.out
        rw [E4.out] at its
        obtain ⟨xd, hxd⟩ : ∃ x, ds[q] = x := ⟨_, rfl⟩
        rw [hxd] at c0 c1 c2 c3 c4 e1 e2 e3 its
        obtain ⟨nm, ki, da, db, co⟩ := xd
        dsimp only at c0 c1 c2 c3 c4 e1 e2 e3
        obtain ⟨p1, p2⟩ := itsB_parts its
        simp only at p1 p2
        obtain ⟨jo, hjo⟩ : ∃ b, decide (1 ≤ ki ∧ ki ≤ 3) = b := ⟨_, rfl⟩
        have J := Lib.hid (fun W => rjoins_is ki jo hjo W)
        have hjB : joinB (dK ds q) = jo := by rw [e1]; exact hjo
        rw [hjB] at CE
        subst hbe
        obtain ⟨X, hX⟩ : ∃ X, cnt (pt ds D) v = X := ⟨_, rfl⟩
        obtain ⟨Y, hY⟩ : ∃ Y, cnt (pt ds F) v = Y := ⟨_, rfl⟩
        rw [hX] at CE z1
        rw [hY] at CE z2
        rw [hX, hY]
        clear hX hY hjB hxd hcd hg1
        cases jo
        · have hxy : Y = X := by rw [if_neg (fun h => by cases h.1)] at CE; exact CE
          have T3 : ((Y : Int) == (X : Int)) = true := by rw [hxy]; exact beq_self_eq_true _
          have T4 : Y = X := hxy
          clear hxy CE hjo p1 p2 its e1 e2 e3 LP
          go_wp2_with fail
          go_quiet ((go_at_call 30; exact Calls.quiet_of_same ((J.out _).mono fun _ _ h => ⟨h.1, h.2.symm⟩)))
          have AW := Lib.hid (fun n => awake_is ((wr.alloc (.cells #[.string nm, .int .i64 ki, .int .i64 da, .int .i64 db, .int .i64 co] 57)).drewN n) (HT.out _ (below_drewN (E5.out.trans ((below_box wr (.cells #[.string nm, .int .i64 ki, .int .i64 da, .int .i64 db, .int .i64 co] 57)).mono E5.out.size)) n)))
          have BW := Lib.hid (fun n => below_drewN (B8.out.trans ((E5.out.trans ((below_box wr (.cells #[.string nm, .int .i64 ki, .int .i64 da, .int .i64 db, .int .i64 co] 57)).mono E5.out.size)).mono B8.out.size)) n)
          go_wp2_with fail
          refine (AW.out _).mono ?_; rintro e w9 ⟨rfl, b9⟩
          have BZ := Lib.hid ((BW.out _).trans (b9.mono (BW.out _).size))
          clear b9
          go_wp2
          go_ret
          exact ⟨rfl, BZ.out⟩
        · have hk := of_decide_eq_true hjo
          obtain ⟨p, hp⟩ : ∃ p : Nat, da = p := ⟨da.toNat, by omega⟩
          obtain ⟨r, hr⟩ : ∃ r : Nat, db = r := ⟨db.toNat, by omega⟩
          subst hp
          subst hr
          rw [Int.toNat_natCast] at e2 e3
          rw [e2, e3] at CE
          have hpN : p < v := by omega
          have hrN : r < v := by omega
          have LP6 := LP.out.below (below_box wr (.cells #[.string nm, .int .i64 ki, .int .i64 (p : Int), .int .i64 (r : Int), .int .i64 co] 57))
          obtain ⟨gp, op, hpe, -, hcp⟩ := LP6.rin.some (by rw [ptL_len]; omega)
          have r0 := cells_i hcp p (by rw [ptL_len]; exact hpN)
          have r1 := cells_i hcp r (by rw [ptL_len]; exact hrN)
          rw [ptL_at hpN] at r0
          rw [ptL_at hrN] at r1
          obtain ⟨P, hP⟩ : ∃ P, pt ds D p = P := ⟨_, rfl⟩
          obtain ⟨R, hR⟩ : ∃ R, pt ds D r = R := ⟨_, rfl⟩
          rw [hP] at CE r0
          rw [hR] at CE r1
          subst hpe
          clear hP hR LP6 hcp p1 p2 its e1 e2 e3 LP hk hjo
          by_cases hPR : P = R
          · have T3 : Y = X := by rw [if_neg (fun h => h.2 hPR)] at CE; exact CE
            have T4 : ((P : Int) != (R : Int)) = false := by rw [hPR]; exact bne_self_eq_false _
            have T5 : ((Y : Int) == (X : Int)) = true := by rw [T3]; exact beq_self_eq_true _
            clear CE hPR
            go_wp2_with fail
            go_quiet ((go_at_call 30; exact Calls.quiet_of_same ((J.out _).mono fun _ _ h => ⟨h.1, h.2.symm⟩)))
            have AW := Lib.hid (fun n => awake_is ((wr.alloc (.cells #[.string nm, .int .i64 ki, .int .i64 (p : Int), .int .i64 (r : Int), .int .i64 co] 57)).drewN n) (HT.out _ (below_drewN (E5.out.trans ((below_box wr (.cells #[.string nm, .int .i64 ki, .int .i64 (p : Int), .int .i64 (r : Int), .int .i64 co] 57)).mono E5.out.size)) n)))
            have BW := Lib.hid (fun n => below_drewN (B8.out.trans ((E5.out.trans ((below_box wr (.cells #[.string nm, .int .i64 ki, .int .i64 (p : Int), .int .i64 (r : Int), .int .i64 co] 57)).mono E5.out.size)).mono B8.out.size)) n)
            go_wp2_with fail
            refine (AW.out _).mono ?_; rintro e w9 ⟨rfl, b9⟩
            have BZ := Lib.hid ((BW.out _).trans (b9.mono (BW.out _).size))
            clear b9
            go_wp2
            go_ret
            exact ⟨rfl, BZ.out⟩
          · have T3 : Y + 1 = X := by rw [if_pos ⟨rfl, hPR⟩] at CE; exact CE
            have T4 : ((P : Int) != (R : Int)) = true := bne_iff_ne.2 (by omega)
            have T5 : ((Y : Int) == (X : Int) - 1) = true := by rw [← T3]; exact beq_iff_eq.2 (by omega)
            clear CE hPR
            go_wp2_with fail
            go_quiet ((go_at_call 30; exact Calls.quiet_of_same ((J.out _).mono fun _ _ h => ⟨h.1, h.2.symm⟩)))
            have AW := Lib.hid (fun n => awake_is ((wr.alloc (.cells #[.string nm, .int .i64 ki, .int .i64 (p : Int), .int .i64 (r : Int), .int .i64 co] 57)).drewN n) (HT.out _ (below_drewN (E5.out.trans ((below_box wr (.cells #[.string nm, .int .i64 ki, .int .i64 (p : Int), .int .i64 (r : Int), .int .i64 co] 57)).mono E5.out.size)) n)))
            have BW := Lib.hid (fun n => below_drewN (B8.out.trans ((E5.out.trans ((below_box wr (.cells #[.string nm, .int .i64 ki, .int .i64 (p : Int), .int .i64 (r : Int), .int .i64 co] 57)).mono E5.out.size)).mono B8.out.size)) n)
            go_wp2_with fail
            refine (AW.out _).mono ?_; rintro e w9 ⟨rfl, b9⟩
            have BZ := Lib.hid ((BW.out _).trans (b9.mono (BW.out _).size))
            clear b9
            go_wp2
            go_ret
            exact ⟨rfl, BZ.out⟩
  · have t1 : decide ((len : Int) ≤ 400) = false := decide_eq_false (by omega)
    go_enter Tryd.func5, Tryd.ntmps5
    go_wp2_with fail
    refine (few_any _ _ _ _ hl).mono ?_; rintro e w' ⟨rfl, rfl⟩
    go_wp2_with fail
    refine (awake_is _ H0.out).mono ?_; rintro e w4 ⟨rfl, b4⟩
    have BZ := Lib.hid b4
    clear b4
    go_wp2
    go_ret
    exact ⟨rfl, BZ.out⟩
end Go.Proofs.YtoeojhabhnoojaaDoor.col
