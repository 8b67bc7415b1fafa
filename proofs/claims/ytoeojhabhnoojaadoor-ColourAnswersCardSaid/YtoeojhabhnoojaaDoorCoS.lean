/- For every list of numbers ColourSources returns true: without closed infeeds and generators no node is live, and without closed earths none is earthed; what is left is as before; the faults are the nodes with both. Conditions: the tables 'classes' and 'flags' hold what their texts lay (the card ties that). -/
import Derived.Test.YtoeojhabhnoojaaDoorCoW
import Derived.Test.YtoeojhabhnoojaaDoorMkRf
namespace Go.Proofs.YtoeojhabhnoojaaDoor.col
open Go.RowKit Go.Maps lex aggs kit net deck msk

/-- the devices before k of some kinds opened -/
def opK (q : Int → Bool) (ds : List Dv) (S : List Int) (k : Nat) : List Int := (List.range S.length).map fun i => if i < k ∧ q (dK ds i) = true then 1 else at0 S i
theorem opK_len (q : Int → Bool) (ds : List Dv) (S : List Int) (k : Nat) : (opK q ds S k).length = S.length := by simp [opK]
theorem opK_at {q : Int → Bool} {ds : List Dv} {S : List Int} {k i : Nat} (hi : i < S.length) : at0 (opK q ds S k) i = if i < k ∧ q (dK ds i) = true then 1 else at0 S i := by
  rw [at0_get (by rw [opK_len]; exact hi)]; simp [opK]
theorem opK_zero (q : Int → Bool) (ds : List Dv) (S : List Int) : opK q ds S 0 = S := by
  refine ext0 (opK_len _ _ _ _) (fun i hi => ?_)
  rw [opK_len] at hi
  rw [opK_at hi, if_neg (by omega)]
theorem opK_yes {q : Int → Bool} {ds : List Dv} {S : List Int} {k : Nat} (hk : k < S.length) (h : q (dK ds k) = true) : (opK q ds S k).set k 1 = opK q ds S (k + 1) := by
  refine ext0 (by rw [List.length_set, opK_len, opK_len]) (fun i hi => ?_)
  rw [List.length_set, opK_len] at hi
  rw [at_set _ (by rw [opK_len]; exact hk), opK_at hi, opK_at hi]
  by_cases e : i = k
  · subst e; rw [if_pos rfl, if_pos ⟨by omega, h⟩]
  · rw [if_neg e]
    by_cases h2 : i < k ∧ q (dK ds i) = true
    · rw [if_pos h2, if_pos ⟨by omega, h2.2⟩]
    · rw [if_neg h2, if_neg (fun h3 => h2 ⟨by omega, h3.2⟩)]
theorem opK_no {q : Int → Bool} {ds : List Dv} {S : List Int} {k : Nat} (h : q (dK ds k) = false) : opK q ds S k = opK q ds S (k + 1) := by
  refine ext0 (by rw [opK_len, opK_len]) (fun i hi => ?_)
  rw [opK_len] at hi
  rw [opK_at hi, opK_at hi]
  by_cases h2 : i < k ∧ q (dK ds i) = true
  · rw [if_pos h2, if_pos ⟨by omega, h2.2⟩]
  · rw [if_neg h2, if_neg (fun h3 => by
      by_cases e : i = k
      · subst e; rw [h] at h3; cases h3.2
      · exact h2 ⟨by omega, h3.2⟩)]
theorem opK_pos {q : Int → Bool} {ds : List Dv} {S : List Int} {k : Nat} (h : ∀ s ∈ S, 1 ≤ s ∧ s ≤ 2) : ∀ s ∈ opK q ds S k, 1 ≤ s ∧ s ≤ 2 := by
  intro s hs
  obtain ⟨i, hi, rfl⟩ := List.mem_iff_getElem.1 hs
  rw [opK_len] at hi
  rw [← at0_get (by rw [opK_len]; exact hi), opK_at hi]
  split
  · omega
  · rw [at0_get hi]; exact h _ (List.getElem_mem _)
theorem pos_chk {ns : List Nd} {ds : List Dv} {S : List Int} (hc : chk ns ds = 0) (hl : S.length = ds.length) (h : ∀ s ∈ S, 1 ≤ s ∧ s ≤ 2) : chkM 2 ns ds S = 0 := by
  unfold chkM
  rw [if_pos hc, if_pos hl, if_pos]
  exact List.all_eq_true.2 (fun s hs => pB_iff.2 (h s hs))
/-- devices that join no nodes opened: the parts are the same -/
theorem op_pt {q : Int → Bool} (hq : ∀ k, q k = true → joinB k = false) {ds : List Dv} {S : List Int} (hl : S.length = ds.length) (v : Nat) : pt ds (opK q ds S ds.length) v = pt ds S v := by
  refine pt_same (fun i hi => ?_) v
  unfold edge
  rw [opK_at (by omega)]
  by_cases h : q (dK ds i) = true
  · rw [hq _ h, Bool.and_false, Bool.and_false]
  · rw [if_neg (fun k => h k.2)]
def qS (k : Int) : Bool := decide (k = 5 ∨ k = 6)
def qE (k : Int) : Bool := decide (k = 4)
theorem qS_j (k : Int) (h : qS k = true) : joinB k = false := by
  have := of_decide_eq_true h
  unfold joinB; exact decide_eq_false (by omega)
theorem qE_j (k : Int) (h : qE k = true) : joinB k = false := by
  have := of_decide_eq_true h
  unfold joinB; exact decide_eq_false (by omega)
theorem b_ext {x y : Bool} (h : x = true ↔ y = true) : x = y := by cases x <;> cases y <;> simp_all
theorem dark_col {ds : List Dv} {S : List Int} (hl : S.length = ds.length) (v : Nat) : b1 (colr ds (opK qS ds S ds.length) v) = false ∧ b2 (colr ds (opK qS ds S ds.length) v) = b2 (colr ds S v) := by
  constructor
  · rw [Bool.eq_false_iff]
    intro h
    obtain ⟨i, h1, h2, h3, h4⟩ := live_iff.1 h
    rw [opK_at (by omega), if_pos ⟨h1, decide_eq_true h3⟩] at h2
    omega
  · refine b_ext ?_
    rw [earth_iff, earth_iff]
    constructor
    · rintro ⟨i, h1, h2, h3, h4⟩
      rw [op_pt qS_j hl, op_pt qS_j hl] at h4
      rw [opK_at (by omega), if_neg (fun k => by have := of_decide_eq_true k.2; omega)] at h2
      exact ⟨i, h1, h2, h3, h4⟩
    · rintro ⟨i, h1, h2, h3, h4⟩
      refine ⟨i, h1, ?_, h3, by rw [op_pt qS_j hl, op_pt qS_j hl]; exact h4⟩
      rw [opK_at (by omega), if_neg (fun k => by have := of_decide_eq_true k.2; omega)]; exact h2
theorem free_col {ds : List Dv} {S : List Int} (hl : S.length = ds.length) (v : Nat) : b2 (colr ds (opK qE ds S ds.length) v) = false ∧ b1 (colr ds (opK qE ds S ds.length) v) = b1 (colr ds S v) := by
  constructor
  · rw [Bool.eq_false_iff]
    intro h
    obtain ⟨i, h1, h2, h3, h4⟩ := earth_iff.1 h
    rw [opK_at (by omega), if_pos ⟨h1, decide_eq_true h3⟩] at h2
    omega
  · refine b_ext ?_
    rw [live_iff, live_iff]
    constructor
    · rintro ⟨i, h1, h2, h3, h4⟩
      rw [op_pt qE_j hl, op_pt qE_j hl] at h4
      rw [opK_at (by omega), if_neg (fun k => by have := of_decide_eq_true k.2; omega)] at h2
      exact ⟨i, h1, h2, h3, h4⟩
    · rintro ⟨i, h1, h2, h3, h4⟩
      refine ⟨i, h1, ?_, h3, by rw [op_pt qE_j hl, op_pt qE_j hl]; exact h4⟩
      rw [opK_at (by omega), if_neg (fun k => by have := of_decide_eq_true k.2; omega)]; exact h2
theorem src_nums {A B C : Int} (ha : 0 ≤ A ∧ A ≤ 3) (hb : 0 ≤ B ∧ B ≤ 3) (hc : 0 ≤ C ∧ C ≤ 3) (a1 : b1 A = false) (a2 : b2 A = b2 C) (c1 : b2 B = false) (c2 : b1 B = b1 C) :
    (bits BinOp.and IntKind.i64 A 1 != 0) = false ∧ (bits BinOp.and IntKind.i64 B 2 != 0) = false ∧ (A != bits BinOp.and IntKind.i64 C 2) = false ∧ (B != bits BinOp.and IntKind.i64 C 1) = false := by
  rcases four ha with rfl | rfl | rfl | rfl <;> rcases four hb with rfl | rfl | rfl | rfl <;> rcases four hc with rfl | rfl | rfl | rfl <;> revert a1 a2 c1 c2 <;> decide +kernel
theorem OwnI.gr {w w' : World} {base : Nat} {v : Value} {xs : List Int} {row : Option Nat} (k : OwnI w base v xs) (hg : w.grownBy w' row) (hr : ∀ r, row = some r → r < base) : OwnI w' base v xs := AggsAt.grown k hg hr
/-- an own slice stays while another one turns -/
theorem OwnI.but {w w' : World} {base g h N c : Nat} {xs : List Int} (k : OwnI w base (.slice (some ⟨g, 0, none⟩) N c) xs) (hg : w.grownBy w' (some h)) (hne : h ≠ g) : OwnI w' base (.slice (some ⟨g, 0, none⟩) N c) xs :=
  World.ownsRow.kept k hg (.inr (by simp [Value.ownBlock]; exact fun e => hne e.symm))
set_option maxRecDepth 100000 in
theorem has_lin (a : Option Addr) (N c : Nat) (xs : List Int) (t : Int) (r : Bool) (w : World) (h : LIn w a N c xs) (hr : decide (t ∈ xs) = r) :
    Calls Tryd.prog 34 #[.slice a N c, .int .i64 t] w fun e w' => e = .returned (.bool r) ∧ w = w' := by
  have hn := Lib.hid h.len
  have n2 := h.cap
  have n3 := h.max
  unfold maxLen at n3
  have HL := Lib.hid h
  have HR := Lib.hid hr
  clear h hr
  go_enter Tryd.func34, Tryd.ntmps34
  go_wp2
  go_loop [5] (fun i => ∃ j : Nat, j ≤ N ∧ i = .int .i64 j ∧ Hid (∀ k, k < j → at0 xs k ≠ t)) (fun i => N - (intOf i).toNat)
  case atStart => exact ⟨0, Nat.zero_le _, rfl, fun k hk => absurd hk (Nat.not_lt_zero k)⟩
  case round =>
    obtain ⟨j, hj, rfl, hno⟩ := hrel
    by_cases hlt : j < N
    · have hjx : j < xs.length := by rw [hn.out]; exact hlt
      obtain ⟨g, o, rfl, hg, hc⟩ := HL.out.rin.some (by omega)
      have f0 := cells_i hc j hjx
      have hm : xs[j] ∈ xs := List.getElem_mem hjx
      rw [← at0_get hjx] at hm
      obtain ⟨x, hx⟩ : ∃ x, at0 xs j = x := ⟨_, rfl⟩
      rw [hx] at f0 hm
      have HX := Lib.hid hx
      by_cases e : x = t
      · have hr' : r = true := by rw [← HR.out]; exact decide_eq_true (by rw [← e]; exact hm)
        subst hr'
        subst e
        clear hx hjx HX hc hg hm
        go_wp2
        go_ret
        exact ⟨rfl, rfl⟩
      · have T1 : (x == t) = false := beq_eq_false_iff_ne.2 e
        have hnext : Hid (∀ k, k < j + 1 → at0 xs k ≠ t) := fun k hk => by
          by_cases e1 : k = j
          · subst e1; rw [HX.out]; exact e
          · exact hno.out k (by omega)
        clear e hx hjx HX hno hc hg hm
        go_wp2
        go_round
        case rel => exact ⟨j + 1, by omega, by go_num, hnext⟩
        case measure => simp [intOf]; omega
    · obtain rfl : N = j := by omega
      have hr' : r = false := by
        rw [← HR.out]; refine decide_eq_false (fun hm => ?_)
        obtain ⟨k, hk, e⟩ := List.mem_iff_getElem.1 hm
        exact hno.out k (by rw [hn.out] at hk; exact hk) (by rw [at0_get hk]; exact e)
      subst hr'
      go_wp2
      go_ret
      exact ⟨rfl, rfl⟩
theorem fa_mem {ds : List Dv} {S : List Int} {N v : Nat} (h : v < N) : decide ((v : Int) ∈ faL ds S N) = (colr ds S v == 3) := by
  have e : ((v : Int) ∈ faL ds S N) ↔ colr ds S v = 3 := by
    unfold faL ints
    rw [List.mem_map]
    constructor
    · rintro ⟨u, h1, h2⟩
      obtain rfl : u = v := by omega
      exact (faK_mem.1 h1).2
    · intro h3; exact ⟨v, faK_mem.2 ⟨h, h3⟩, rfl⟩
  refine b_ext ?_
  rw [decide_eq_true_iff, beq_iff_eq, e]
set_option maxRecDepth 100000 in
set_option maxHeartbeats 16000000 in
theorem sources_walk (la : Option Addr) (len cap : Nat) (zs : List Int) (W0 : World) (hr : IsRow .i64 W0 la len cap zs) (h : STabs W0) :
    Calls Tryd.prog 7 #[.slice la len cap] W0 fun e w' => e = .returned (.bool true) ∧ Below W0.heap.size W0 w' := by
  have hl : len ≤ 9223372036854775807 := by
    rcases hr with ⟨_, h, _⟩ | ⟨_, _, h1, h2, _⟩
    · omega
    · unfold maxLen at h2; omega
  have H0 := Lib.hid h
  have HR := Lib.hid hr
  clear h hr
  by_cases h4 : len ≤ 400
  · have t1 : decide ((len : Int) ≤ 400) = true := decide_eq_true (by omega)
    go_enter Tryd.func7, Tryd.ntmps7
    go_wp2_with fail
    refine (few_any _ _ _ _ hl).mono ?_; rintro e w' ⟨rfl, rfl⟩
    go_wp2_with fail
    refine (newg_any _ _ _ _).mono ?_; rintro e w1 ⟨rfl, g1⟩
    have hbw := g1.lt
    obtain ⟨bd, hbd⟩ : ∃ b, W0.heap.size = b := ⟨_, rfl⟩
    have HB := Lib.hid hbd
    rw [hbd] at hbw g1 ⊢
    clear hbd h4 t1 hl
    go_wp2_with fail
    refine (network_is (nodes := 7) (devices := 12) g1 HR.out (by decide) (by decide) (by decide) (by decide)).mono ?_
    rintro e W2 ⟨vn, vd, ns, ds, rfl, g2, rn, rdd, gn, gd, n1, n2, d1, d2⟩
    obtain ⟨an, cn, ad, cd, rfl, rfl, ni, z1, z2⟩ := rows_net rn rdd (by omega) gn gd hbw
    obtain ⟨N, hN⟩ : ∃ N, ns.length = N := ⟨_, rfl⟩
    obtain ⟨M, hM⟩ : ∃ M, ds.length = M := ⟨_, rfl⟩
    have CHK := Lib.hid (good_chk (by omega) (by omega) gn gd)
    rw [hN] at n1 n2 ni ⊢
    rw [hM] at d1 d2 ni ⊢
    have bx := below_box W2 (.cells #[.slice an N cn, .slice ad M cd] 26)
    have NT := Lib.hid (NtAt.new W2 (.slice an N cn) (.slice ad M cd) 26)
    have G3 := Lib.hid (g2.alloc (.cells #[.slice an N cn, .slice ad M cd] 26))
    have NF3 : Hid (NF (W2.alloc (.cells #[.slice an N cn, .slice ad M cd] 26)) bd an ad N cn M cd ns ds) := ⟨ni.below bx, z1, z2⟩
    have hb2 := g2.lt
    obtain ⟨g, hg⟩ : ∃ g, W2.heap.size = g := ⟨_, rfl⟩
    rw [hg] at NT hb2
    obtain ⟨W3, hW3⟩ : ∃ W3, W2.alloc (.cells #[.slice an N cn, .slice ad M cd] 26) = W3 := ⟨_, rfl⟩
    have hs3 : W3.heap.size = g + 1 := by rw [← hW3, World.size_alloc, hg]
    rw [hW3] at NT G3 NF3
    have hgb : g ≠ bd := by omega
    have k1 := NT.out.1
    have k2 := NT.out.2.1
    have gm0 := G3.out
    have gr0 := gb_refl W3 (some bd)
    have HDM := Lib.hid hM
    have HDN := Lib.hid hN
    have h64 : M ≤ 64 := by omega
    have h32 : N ≤ 32 := by omega
    clear rn rdd gn gd hN hM ni z1 z2 g1 g2 hbw bx
    go_wp2_with fail
    (try rw [hW3])
    clear hW3 hg
    refine (state_is gm0 HR.out an ad N cn M cd ns ds (NF3.out.keep2 gr0) h64).mono ?_
    rintro e w4 ⟨v, S, rfl, own, hS, hSa, gm4, gb4⟩
    obtain ⟨aS, cS, rfl, lS, lSo⟩ := own.lin
    rw [hS] at own lS ⊢
    have c0 := gb_cell k1 gb4 hgb
    have c1 := gb_cell k2 gb4 hgb
    have hbS := gb4.size
    rw [hs3] at hbS
    have B4 := Lib.hid gm4.below
    have HT := Lib.hid (fun wr (b : Below w4.heap.size w4 wr) => H0.out.below (gm4.below.trans (b.mono gm4.below.size)))
    have NI := Lib.hid (fun wr (b : Below w4.heap.size w4 wr) => (NF3.out.keep gb4).below b)
    have LS := Lib.hid (fun wr (b : Below w4.heap.size w4 wr) => lS.below b)
    have C0 := Lib.hid (fun wr (b : Below w4.heap.size w4 wr) => (b.cell (p := ⟨g, 0, none⟩) (World.block_lt_of_cell? w4 _ c0)).trans c0)
    have C1 := Lib.hid (fun wr (b : Below w4.heap.size w4 wr) => (b.cell (p := ⟨g, 1, none⟩) (World.block_lt_of_cell? w4 _ c1)).trans c1)
    have HS := Lib.hid hS
    have HSA := Lib.hid hSa
    have s1 := lS.cap
    have s2 := lS.max
    unfold maxLen at s2
    have nin := NF3.out.keep gb4
    have n3 := nin.ncap
    have n4 := nin.nmax
    have n5 := nin.dcap
    have n6 := nin.dmax
    unfold maxLen at n4 n6
    clear nin gm0 gr0 NT G3
    clear hSa c0 c1 k1 k2 hS
    have l4 := LS.out _ (Below.refl _ _)
    have b4 := Below.refl w4.heap.size w4
    clear own lS lSo gm4 gb4
    go_wp2_with (at_builtin; go_must (first
      | (refine wpList_append_lin rfl (.tmp 30) rfl rfl (LS.out w4 (Below.refl _ _)) (by omega) ?_; intro a5 c5 w5 own5 gr5; have OWN5 := Lib.hid own5; have OWD := Lib.hid own5; have B5 := Lib.hid ((Below.refl w4.heap.size w4).grown gr5 (Nat.le_refl _) (fun k hk => by cases hk)); clear own5 gr5)
      | (refine wpList_append_lin rfl (.tmp 32) rfl rfl (LS.out w5 B5.out) (by omega) ?_; intro a6 c6 w6 own6 gr6; have OWN6 := Lib.hid own6; have OWN5 := Lib.hid (OwnI.gr OWN5.out gr6 (fun k hk => by cases hk)); have B6 := Lib.hid (B5.out.grown gr6 B5.out.size (fun k hk => by cases hk)); have hz5 := B5.out.size; have hz6 := gr6.size; have m1 := C1.out _ B6.out; clear own6 gr6)))
    clear m1
    obtain ⟨gd, rfl, -, hd1, hd2, hd3, hd4, -⟩ := OWN5.out.some (by omega)
    obtain ⟨gf, rfl, -, hf1, hf2, hf3, hf4, -⟩ := OWN6.out.some (by omega)
    obtain ⟨hd2, -⟩ : gd < w5.heap.size ∧ True := by
      obtain ⟨gd', e, -, -, h, -⟩ := OWD.out.some (by omega)
      cases e; exact ⟨h, trivial⟩
    unfold maxLen at hd4 hf4
    have hne : gd ≠ gf := by omega
    go_loopw [37] (fun i wr => ∃ k : Nat, k ≤ M ∧ i = .int .i64 k ∧ Hid (OwnI wr w4.heap.size (.slice (some ⟨gd, 0, none⟩) M c5) (opK qS ds S k)) ∧ Hid (OwnI wr w5.heap.size (.slice (some ⟨gf, 0, none⟩) M c6) (opK qE ds S k)) ∧ Hid (Below w4.heap.size w4 wr)) (fun i _ => M - (intOf i).toNat)
    case atStart => exact ⟨0, Nat.zero_le _, rfl, by show OwnI _ _ _ _; rw [opK_zero]; exact OWN5.out, by show OwnI _ _ _ _; rw [opK_zero]; exact OWN6.out, B6.out⟩
    case round =>
      clear OWN5 OWN6 B6
      obtain ⟨k, hk, rfl, o5, o6, bel⟩ := hrel
      by_cases hlt : k < M
      · have hkd : k < ds.length := by rw [HDM.out]; exact hlt
        have hks : k < S.length := by rw [HS.out]; exact hlt
        obtain ⟨gg, o, hbe, hg1, hcd⟩ := (NI.out _ bel.out).din.some (by omega)
        obtain ⟨c0, c1, c2, c3, c4⟩ := cells_dv hcd k hkd
        obtain ⟨e1, -, -⟩ := dev_at hkd
        obtain ⟨xd, hxd⟩ : ∃ x, ds[k] = x := ⟨_, rfl⟩
        rw [hxd] at c0 c1 c2 c3 c4 e1
        obtain ⟨nm, ki, da, db, co⟩ := xd
        dsimp only at c0 c1 c2 c3 c4 e1
        have E1 := Lib.hid e1
        obtain ⟨hgw, -⟩ : gd < wr.heap.size ∧ True := by
          obtain ⟨g5, e, -, -, h, -⟩ := o5.out.some (by omega)
          cases e; exact ⟨h, trivial⟩
        have o5 : Hid (OwnI (wr.alloc (.cells #[.string nm, .int .i64 ki, .int .i64 da, .int .i64 db, .int .i64 co] 57)) w4.heap.size (.slice (some ⟨gd, 0, none⟩) M c5) (opK qS ds S k)) := AggsAt.alloc o5.out (.cells #[.string nm, .int .i64 ki, .int .i64 da, .int .i64 db, .int .i64 co] 57)
        have o6 : Hid (OwnI (wr.alloc (.cells #[.string nm, .int .i64 ki, .int .i64 da, .int .i64 db, .int .i64 co] 57)) w5.heap.size (.slice (some ⟨gf, 0, none⟩) M c6) (opK qE ds S k)) := AggsAt.alloc o6.out (.cells #[.string nm, .int .i64 ki, .int .i64 da, .int .i64 db, .int .i64 co] 57)
        have b5 := Lib.hid (bel.out.trans ((below_box wr (.cells #[.string nm, .int .i64 ki, .int .i64 da, .int .i64 db, .int .i64 co] 57)).mono bel.out.size))
        obtain ⟨g5, he5, hl5, -, -, -, -, q5⟩ := o5.out.some (by omega)
        cases he5
        obtain ⟨g6, he6, hl6, -, -, -, -, q6⟩ := o6.out.some (by omega)
        cases he6
        obtain ⟨c7, f7⟩ := q5 k hlt
        obtain ⟨c8, f8⟩ := q6 k hlt
        clear q5 q6
        subst hbe
        by_cases h56 : ki = 5 ∨ ki = 6
        · have N5 := Lib.hid (opK_yes (q := qS) (ds := ds) hks (by rw [E1.out]; exact decide_eq_true h56))
          have N6 := Lib.hid (opK_no (q := qE) (ds := ds) (S := S) (k := k) (by rw [E1.out]; exact decide_eq_false (by omega)))
          have st := o5.out.set hl5 k hlt 1
          rw [N5.out] at st
          have U5 := Lib.hid st.1
          have UB := Lib.hid (b5.out.grown st.2 b5.out.size (fun j hj => by cases hj; exact hd1))
          have U6 : Hid (OwnI (World.setCell (wr.alloc (.cells #[.string nm, .int .i64 ki, .int .i64 da, .int .i64 db, .int .i64 co] 57)) ⟨gd, k, none⟩ (.int .i64 1)) w5.heap.size (.slice (some ⟨gf, 0, none⟩) M c6) (opK qE ds S (k + 1))) := by
            show OwnI _ _ _ _
            rw [← N6.out]; exact OwnI.but o6.out st.2 hne
          obtain ⟨-, z1, -⟩ := DvAt.new wr ⟨nm, ki, da, db, co⟩ 57
          have z1 := st.2.cell z1 (by show some wr.heap.size ≠ some gd; simp; omega)
          dsimp only at z1
          clear st
          rw [World.setCell_alloc_past _ _ _ _ hgw] at U5 U6 UB z1
          clear o5 o6 b5 bel N5 N6 hcd hg1 hxd e1
          rcases h56 with rfl | rfl
          · go_wp2
            go_roundw
            case rel => exact ⟨k + 1, by omega, by go_num, U5, U6, UB⟩
            case measure => simp [intOf]; omega
          · go_wp2
            go_roundw
            case rel => exact ⟨k + 1, by omega, by go_num, U5, U6, UB⟩
            case measure => simp [intOf]; omega
        · have T5 : (ki == 5) = false := beq_eq_false_iff_ne.2 (by omega)
          have T6 : (ki == 6) = false := beq_eq_false_iff_ne.2 (by omega)
          have N5 := Lib.hid (opK_no (q := qS) (ds := ds) (S := S) (k := k) (by rw [E1.out]; exact decide_eq_false h56))
          have U5 : Hid (OwnI (wr.alloc (.cells #[.string nm, .int .i64 ki, .int .i64 da, .int .i64 db, .int .i64 co] 57)) w4.heap.size (.slice (some ⟨gd, 0, none⟩) M c5) (opK qS ds S (k + 1))) := by
            show OwnI _ _ _ _
            rw [← N5.out]; exact o5.out
          by_cases h4 : ki = 4
          · subst h4
            have N6 := Lib.hid (opK_yes (q := qE) (ds := ds) hks (by rw [E1.out]; exact decide_eq_true rfl))
            have st := o6.out.set hl6 k hlt 1
            rw [N6.out] at st
            have U6 := Lib.hid st.1
            have U5 : Hid (OwnI (World.setCell (wr.alloc (.cells #[.string nm, .int .i64 4, .int .i64 da, .int .i64 db, .int .i64 co] 57)) ⟨gf, k, none⟩ (.int .i64 1)) w4.heap.size (.slice (some ⟨gd, 0, none⟩) M c5) (opK qS ds S (k + 1))) := OwnI.but U5.out st.2 (fun e => hne e.symm)
            have UB := Lib.hid (b5.out.grown st.2 b5.out.size (fun j hj => by cases hj; omega))
            clear st o5 o6 b5 bel N5 N6 hcd hg1 hxd e1 h56
            go_wp2
            go_roundw
            case rel => exact ⟨k + 1, by omega, by go_num, U5, U6, UB⟩
            case measure => simp [intOf]; omega
          · have T4 : (ki == 4) = false := beq_eq_false_iff_ne.2 h4
            have N6 := Lib.hid (opK_no (q := qE) (ds := ds) (S := S) (k := k) (by rw [E1.out]; exact decide_eq_false h4))
            have U6 : Hid (OwnI (wr.alloc (.cells #[.string nm, .int .i64 ki, .int .i64 da, .int .i64 db, .int .i64 co] 57)) w5.heap.size (.slice (some ⟨gf, 0, none⟩) M c6) (opK qE ds S (k + 1))) := by
              show OwnI _ _ _ _
              rw [← N6.out]; exact o6.out
            clear o5 o6 bel N5 N6 hcd hg1 hxd e1 h56 h4
            go_wp2
            go_roundw
            case rel => exact ⟨k + 1, by omega, by go_num, U5, U6, b5⟩
            case measure => simp [intOf]; omega
      · obtain rfl : k = M := by omega
        have hDl : (opK qS ds S k).length = k := by rw [opK_len]; exact HS.out
        have hFl : (opK qE ds S k).length = k := by rw [opK_len]; exact HS.out
        have CD := Lib.hid (pos_chk CHK.out (by rw [hDl, HDM.out]) (opK_pos (q := qS) (ds := ds) (k := k) HSA.out))
        have CF := Lib.hid (pos_chk CHK.out (by rw [hFl, HDM.out]) (opK_pos (q := qE) (ds := ds) (k := k) HSA.out))
        have CS := Lib.hid (pos_chk CHK.out (by rw [HS.out, HDM.out]) HSA.out)
        have DC := Lib.hid (fun v => dark_col (ds := ds) (S := S) (by rw [HS.out, HDM.out]) v)
        have FC := Lib.hid (fun v => free_col (ds := ds) (S := S) (by rw [HS.out, HDM.out]) v)
        rw [HDM.out] at DC FC
        obtain ⟨a9, c9, he9, l5, -⟩ := o5.out.lin
        rw [hDl] at he9 l5
        cases he9
        obtain ⟨a9, c9, he9, l6, -⟩ := o6.out.lin
        rw [hFl] at he9 l6
        cases he9
        have L5 := Lib.hid (fun x (b : Below wr.heap.size wr x) => l5.below b)
        have L6 := Lib.hid (fun x (b : Below wr.heap.size wr x) => l6.below b)
        generalize opK qS ds S k = D at *
        generalize opK qE ds S k = F at *
        have E0 := Lib.hid bel.out
        have m0 := C0.out _ E0.out
        have m1 := C1.out _ E0.out
        clear o5 o6 l5 l6 OWD hDl hFl hd1 hd2 hf1 hf2 hne bel
        go_wp2_with fail
        refine (Colours_is an ad _ N cn k cd k c5 ns ds D 0 _ (HT.out _ E0.out) (NI.out _ E0.out) (L5.out _ (Below.refl _ _)) CD.out).mono ?_
        rintro e x1 ⟨v, rfl, own, b1⟩
        rw [if_pos rfl] at own
        obtain ⟨aA, cA, rfl, lA, -⟩ := own.lin
        rw [coL_len] at lA ⊢
        have LA := Lib.hid (fun x (b : Below x1.heap.size x1 x) => lA.below b)
        have A2 := lA.cap
        have A3 := lA.max
        have R1 := Lib.hid b1
        have E1 := Lib.hid (E0.out.trans (b1.mono E0.out.size))
        have m0 := C0.out _ E1.out
        have m1 := C1.out _ E1.out
        clear own lA b1
        go_wp2_with fail
        refine (Colours_is an ad _ N cn k cd k c6 ns ds F 0 _ (HT.out _ E1.out) (NI.out _ E1.out) (L6.out _ R1.out) CF.out).mono ?_
        rintro e x2 ⟨v, rfl, own, b1⟩
        rw [if_pos rfl] at own
        obtain ⟨aB, cB, rfl, lB, -⟩ := own.lin
        rw [coL_len] at lB ⊢
        have LA := Lib.hid (fun x (b : Below x2.heap.size x2 x) => LA.out _ (b1.trans (b.mono b1.size)))
        have LB := Lib.hid (fun x (b : Below x2.heap.size x2 x) => lB.below b)
        have B2 := lB.cap
        have B3 := lB.max
        have E2 := Lib.hid (E1.out.trans (b1.mono E1.out.size))
        have m0 := C0.out _ E2.out
        have m1 := C1.out _ E2.out
        clear own lB b1
        go_wp2_with fail
        refine (Colours_is an ad _ N cn k cd k cS ns ds S 0 _ (HT.out _ E2.out) (NI.out _ E2.out) (LS.out _ E2.out) CS.out).mono ?_
        rintro e x3 ⟨v, rfl, own, b1⟩
        rw [if_pos rfl] at own
        obtain ⟨aC, cC, rfl, lC, -⟩ := own.lin
        rw [coL_len] at lC ⊢
        have LA := Lib.hid (fun x (b : Below x3.heap.size x3 x) => LA.out _ (b1.trans (b.mono b1.size)))
        have LB := Lib.hid (fun x (b : Below x3.heap.size x3 x) => LB.out _ (b1.trans (b.mono b1.size)))
        have LC := Lib.hid (fun x (b : Below x3.heap.size x3 x) => lC.below b)
        have C2 := lC.cap
        have C3 := lC.max
        have E3 := Lib.hid (E2.out.trans (b1.mono E2.out.size))
        have m0 := C0.out _ E3.out
        have m1 := C1.out _ E3.out
        clear own lC b1
        go_wp2_with fail
        refine (Faults_is an ad _ N cn k cd k cS ns ds S 0 _ (HT.out _ E3.out) (NI.out _ E3.out) (LS.out _ E3.out) CS.out).mono ?_
        rintro e x4 ⟨v, rfl, own, b1⟩
        rw [if_pos rfl] at own
        obtain ⟨aG, cG, rfl, lG, -⟩ := own.lin
        obtain ⟨Q, hQ⟩ : ∃ Q, (faL ds S N).length = Q := ⟨_, rfl⟩
        rw [hQ] at lG ⊢
        have LA := Lib.hid (fun x (b : Below x4.heap.size x4 x) => LA.out _ (b1.trans (b.mono b1.size)))
        have LB := Lib.hid (fun x (b : Below x4.heap.size x4 x) => LB.out _ (b1.trans (b.mono b1.size)))
        have LC := Lib.hid (fun x (b : Below x4.heap.size x4 x) => LC.out _ (b1.trans (b.mono b1.size)))
        have LG := Lib.hid (fun x (b : Below x4.heap.size x4 x) => lG.below b)
        have E4 := Lib.hid (E3.out.trans (b1.mono E3.out.size))
        have m0 := C0.out _ E4.out
        have m1 := C1.out _ E4.out
        unfold maxLen at A3 B3 C3
        clear own lG b1 hQ
        go_wp2_with fail
        clear m0 m1
        go_loopw [122] (fun i wr => ∃ v : Nat, v ≤ N ∧ i = .int .i64 v ∧ Hid (Below x4.heap.size x4 wr)) (fun i _ => N - (intOf i).toNat)
        case atStart => exact ⟨0, Nat.zero_le _, rfl, Below.refl _ _⟩
        case round =>
          obtain ⟨v, hv, rfl, bel⟩ := hrel
          by_cases hlt : v < N
          · obtain ⟨ga, oa, hae, -, hca⟩ := (LA.out _ bel.out).rin.some (by rw [coL_len]; omega)
            obtain ⟨gb, ob, hbe, -, hcb⟩ := (LB.out _ bel.out).rin.some (by rw [coL_len]; omega)
            obtain ⟨gc, oc, hce, -, hcc⟩ := (LC.out _ bel.out).rin.some (by rw [coL_len]; omega)
            have ra := cells_i hca v (by rw [coL_len]; exact hlt)
            have rb := cells_i hcb v (by rw [coL_len]; exact hlt)
            have rc := cells_i hcc v (by rw [coL_len]; exact hlt)
            rw [coL_at hlt] at ra rb rc
            obtain ⟨d1', d2'⟩ := DC.out v
            obtain ⟨f1', f2'⟩ := FC.out v
            obtain ⟨q1, q2, q3, q4⟩ := src_nums (colr_in ds D v) (colr_in ds F v) (colr_in ds S v) d1' d2' f1' f2'
            have HH := Lib.hid (fun n => has_lin _ _ _ _ _ _ (wr.drewN n) ((LG.out _ bel.out).drewN n) (fa_mem (ds := ds) (S := S) hlt))
            clear d1' d2' f1' f2' hca hcb hcc
            generalize colr ds D v = A at *
            generalize colr ds F v = B at *
            generalize colr ds S v = C at *
            obtain ⟨r, hr⟩ : ∃ r, (C == 3) = r := ⟨_, rfl⟩
            rw [hr] at HH
            have hrr : (r != r) = false := by cases r <;> rfl
            have NB := Lib.hid bel.out
            subst hae
            subst hbe
            subst hce
            clear bel
            go_wp2_with fail
            go_quiet ((go_at_call 34; exact Calls.quiet_of_same ((HH.out _).mono fun _ _ h => ⟨h.1, h.2.symm⟩)))
            go_wp2
            go_roundw
            case rel => exact ⟨v + 1, by omega, by go_num, below_drewN NB.out _⟩
            case measure => simp [intOf]; omega
          · obtain rfl : v = N := by omega
            have E5 := Lib.hid (E4.out.trans (bel.out.mono E4.out.size))
            go_wp2_with fail
            refine (awake_is _ (HT.out _ E5.out)).mono ?_; rintro e w9 ⟨rfl, b9⟩
            have BZ : Hid (Below W0.heap.size W0 w9) := (B4.out.trans (E5.out.mono B4.out.size)).trans (b9.mono (B4.out.trans (E5.out.mono B4.out.size)).size)
            clear b9
            go_wp2
            go_ret
            exact ⟨rfl, BZ.out⟩
  · have t1 : decide ((len : Int) ≤ 400) = false := decide_eq_false (by omega)
    go_enter Tryd.func7, Tryd.ntmps7
    go_wp2_with fail
    refine (few_any _ _ _ _ hl).mono ?_; rintro e w' ⟨rfl, rfl⟩
    go_wp2_with fail
    refine (awake_is _ H0.out).mono ?_; rintro e w4 ⟨rfl, b4⟩
    have BZ := Lib.hid b4
    clear b4
    go_wp2
    go_ret
    exact ⟨rfl, BZ.out⟩
end Go.Proofs.YtoeojhabhnoojaaDoor.col
