/- For every list of numbers ColourShades returns true: a node may be live, or earthed, exactly if it is in some agreeing state, and must be exactly if it is in every one. Conditions: the tables 'classes' and 'flags' hold what their texts lay (the card ties that). -/
import Derived.Test.YtoeojhabhnoojaaDoorCoH
import Derived.Test.YtoeojhabhnoojaaDoorCoS
import Derived.Test.YtoeojhabhnoojaaDoorMkI
namespace Go.Proofs.YtoeojhabhnoojaaDoor.col
open Go.RowKit Go.Maps lex aggs kit net deck msk

def ups (x : Sh) (c : Int) : Sh := ⟨x.ml || b1 c, x.tl && b1 c, x.me || b2 c, x.te && b2 c⟩
/-- what the first k states say of a node -/
def fdS (ds : List Dv) (S : List Int) : Nat → Nat → Sh
  | 0, _ => ⟨false, true, false, true⟩
  | k + 1, v => ups (fdS ds S k v) (colr ds (stL S k) v)
theorem fd_iff (ds : List Dv) (S : List Int) (k v : Nat) :
    ((fdS ds S k v).ml = true ↔ ∃ i, i < k ∧ b1 (colr ds (stL S i) v) = true) ∧ ((fdS ds S k v).tl = true ↔ ∀ i, i < k → b1 (colr ds (stL S i) v) = true) ∧
    ((fdS ds S k v).me = true ↔ ∃ i, i < k ∧ b2 (colr ds (stL S i) v) = true) ∧ ((fdS ds S k v).te = true ↔ ∀ i, i < k → b2 (colr ds (stL S i) v) = true) := by
  induction k with
  | zero => simp [fdS]
  | succ k ih =>
    obtain ⟨h1, h2, h3, h4⟩ := ih
    have ex : ∀ p : Nat → Prop, (∃ i, i < k + 1 ∧ p i) ↔ (∃ i, i < k ∧ p i) ∨ p k := fun p => by
      constructor
      · rintro ⟨i, hi, hp⟩
        by_cases e : i = k
        · subst e; exact .inr hp
        · exact .inl ⟨i, by omega, hp⟩
      · rintro (⟨i, hi, hp⟩ | hp)
        · exact ⟨i, by omega, hp⟩
        · exact ⟨k, by omega, hp⟩
    have al : ∀ p : Nat → Prop, (∀ i, i < k + 1 → p i) ↔ (∀ i, i < k → p i) ∧ p k := fun p => by
      constructor
      · intro h; exact ⟨fun i hi => h i (by omega), h k (by omega)⟩
      · rintro ⟨h, hp⟩ i hi
        by_cases e : i = k
        · subst e; exact hp
        · exact h i (by omega)
    refine ⟨?_, ?_, ?_, ?_⟩
    · rw [ex, ← h1]; simp [fdS, ups]
    · rw [al, ← h2]; simp [fdS, ups]
    · rw [ex, ← h3]; simp [fdS, ups]
    · rw [al, ← h4]; simp [fdS, ups]
theorem sub_hi {ds : List Dv} {S : List Int} (hl : S.length = ds.length) (i : Nat) : Sub ds (stL S i) (setL 2 S) := fun d hd h => by
  rw [stL_at (by omega)] at h
  rw [setL_at (by omega)]
  unfold stA at h
  by_cases e : at0 S d = 3
  · rw [if_pos e]
  · rw [if_neg e] at h; rw [if_neg e]; exact h
theorem sub_lo {ds : List Dv} {S : List Int} (hl : S.length = ds.length) (i : Nat) : Sub ds (setL 1 S) (stL S i) := fun d hd h => by
  rw [setL_at (by omega)] at h
  rw [stL_at (by omega)]
  unfold stA
  by_cases e : at0 S d = 3
  · rw [if_pos e] at h; omega
  · rw [if_neg e] at h; rw [if_neg e]; exact h
theorem sh_all {ds : List Dv} {S : List Int} {K : Nat} (hl : S.length = ds.length) (hK : 2 ^ (unkL S).length = K) (v : Nat) : shd (colr ds (setL 2 S) v) (colr ds (setL 1 S) v) = fdS ds S K v := by
  obtain ⟨h1, h2, h3, h4⟩ := fd_iff ds S K v
  have hp : 0 < K := by rw [← hK]; exact Nat.pow_pos (by decide)
  have hi : stL S (K - 1) = setL 2 S := by rw [← hK]; exact stL_last S
  have lo : stL S 0 = setL 1 S := stL_zero S
  have e1 : b1 (colr ds (setL 2 S) v) = (fdS ds S K v).ml := b_ext (by
    rw [h1]
    constructor
    · intro h; exact ⟨K - 1, by omega, by rw [hi]; exact h⟩
    · rintro ⟨i, _, h⟩; exact (sub_hi hl i).live h)
  have e2 : b1 (colr ds (setL 1 S) v) = (fdS ds S K v).tl := b_ext (by
    rw [h2]
    constructor
    · intro h i _; exact (sub_lo hl i).live h
    · intro h; rw [← lo]; exact h 0 hp)
  have e3 : b2 (colr ds (setL 2 S) v) = (fdS ds S K v).me := b_ext (by
    rw [h3]
    constructor
    · intro h; exact ⟨K - 1, by omega, by rw [hi]; exact h⟩
    · rintro ⟨i, _, h⟩; exact (sub_hi hl i).earth h)
  have e4 : b2 (colr ds (setL 1 S) v) = (fdS ds S K v).te := b_ext (by
    rw [h4]
    constructor
    · intro h i _; exact (sub_lo hl i).earth h
    · intro h; rw [← lo]; exact h 0 hp)
  unfold shd
  rw [e1, e2, e3, e4]
/-- the shades that the law reckons, by the node that stands next -/
def mxL (ds : List Dv) (S : List Int) (N k v : Nat) : List Sh := (List.range N).map fun i => if i < v then fdS ds S (k + 1) i else fdS ds S k i
def fdL (ds : List Dv) (S : List Int) (N k : Nat) : List Sh := (List.range N).map fun i => fdS ds S k i
theorem mxL_len (ds : List Dv) (S : List Int) (N k v : Nat) : (mxL ds S N k v).length = N := by simp [mxL]
theorem fdL_len (ds : List Dv) (S : List Int) (N k : Nat) : (fdL ds S N k).length = N := by simp [fdL]
theorem mxL_zero (ds : List Dv) (S : List Int) (N k : Nat) : mxL ds S N k 0 = fdL ds S N k := by unfold mxL fdL; congr 1
theorem mxL_end (ds : List Dv) (S : List Int) (N k : Nat) : mxL ds S N k N = fdL ds S N (k + 1) := by
  refine List.ext_getElem (by rw [mxL_len, fdL_len]) (fun i h1 h2 => ?_)
  rw [mxL_len] at h1
  simp [mxL, fdL, h1]
theorem mxL_get {ds : List Dv} {S : List Int} {N k v : Nat} (h : v < N) : (mxL ds S N k v)[v]'(by rw [mxL_len]; exact h) = fdS ds S k v := by simp [mxL]
theorem mxL_step {ds : List Dv} {S : List Int} {N k v : Nat} (_h : v < N) : (mxL ds S N k v).set v (fdS ds S (k + 1) v) = mxL ds S N k (v + 1) := by
  refine List.ext_getElem (by rw [List.length_set, mxL_len, mxL_len]) (fun i h1 h2 => ?_)
  rw [List.length_set, mxL_len] at h1
  rw [List.getElem_set]
  by_cases e : v = i
  · subst e; rw [if_pos rfl]; simp [mxL]
  · rw [if_neg e]
    simp only [mxL, List.getElem_map, List.getElem_range]
    by_cases h3 : i < v
    · rw [if_pos h3, if_pos (by omega)]
    · rw [if_neg h3, if_neg (by omega)]
theorem fdL_start (ds : List Dv) (S : List Int) (N : Nat) : List.replicate N (⟨false, true, false, true⟩ : Sh) = fdL ds S N 0 := by
  refine List.ext_getElem (by rw [List.length_replicate, fdL_len]) (fun i h1 h2 => ?_)
  simp [fdL, fdS]
theorem shL_fd {ds : List Dv} {S : List Int} {N K : Nat} (hl : S.length = ds.length) (hK : 2 ^ (unkL S).length = K) : shL ds S N = fdL ds S N K := by
  unfold shL fdL; congr 1; funext v; exact sh_all hl hK v
theorem SIn.grown {w w' : World} {row : Option Nat} {a : Option Addr} {N c : Nat} {xs : List Sh} (h : SIn w a N c xs) (hg : w.grownBy w' row) (hr : ∀ p, a = some p → some p.block ≠ row) : SIn w' a N c xs := by
  refine ⟨h.len, h.cap, h.max, ?_⟩
  rcases h.rin with e | ⟨b, o, e, h2, h3⟩
  · exact .inl e
  · exact .inr ⟨b, o, e, Nat.lt_of_lt_of_le h2 hg.size, fun i u hu => hg.cell (h3 i u hu) (show some b ≠ row from hr _ e)⟩
theorem SIn.off {w : World} {a : Option Addr} {N c : Nat} {xs : List Sh} (h : SIn w a N c xs) {k : Nat} (hk : w.heap.size ≤ k) : ∀ p, a = some p → some p.block ≠ some k := by
  intro p hp e
  rcases h.rin with ⟨e1, _⟩ | ⟨b, o, e1, h2, _⟩
  · rw [e1] at hp; cases hp
  · rw [e1] at hp; cases hp
    injection e with e
    simp only at e
    omega
theorem OwnS.cellsx {w : World} {base g N c : Nat} {xs : List Sh} (h : OwnS w base (.slice (some ⟨g, 0, none⟩) N c) xs) (hN : xs.length = N) (j : Nat) (hj : j < N) {x : Sh} (hx : xs[j]'(by omega) = x) : w.cell? ⟨g, j * 4, none⟩ = some (.bool x.ml) ∧ w.cell? ⟨g, j * 4 + 1, none⟩ = some (.bool x.tl) ∧ w.cell? ⟨g, j * 4 + 2, none⟩ = some (.bool x.me) ∧ w.cell? ⟨g, j * 4 + 3, none⟩ = some (.bool x.te) := by
  rcases AggsAt.shape h encS_len with ⟨e, _⟩ | ⟨g', cap, e, q1, q2, q3, q4, q5, q6⟩
  · injection e with e1 e2 e3; omega
  · injection e with e1 e2 e3; cases e1
    have := cells_s q5 j (by omega)
    rw [hx, Nat.zero_add] at this
    exact this
/-- two fields of one element, one after the other -/
theorem OwnS.two {w : World} {base g N c : Nat} {xs : List Sh} (h : OwnS w base (.slice (some ⟨g, 0, none⟩) N c) xs) (hN : xs.length = N) (j : Nat) (hj : j < N) {x : Sh} (hx : xs[j]'(by omega) = x) (q s : Bool) :
    OwnS ((w.setCell ⟨g, j * 4 + 1, none⟩ (.bool q)).setCell ⟨g, j * 4 + 3, none⟩ (.bool s)) base (.slice (some ⟨g, 0, none⟩) N c) (xs.set j ⟨x.ml, q, x.me, s⟩) ∧
    w.grownBy ((w.setCell ⟨g, j * 4 + 1, none⟩ (.bool q)).setCell ⟨g, j * 4 + 3, none⟩ (.bool s)) (some g) := by
  have h2 := AggsAt.set hN h encS_len j (by omega) 1 (by decide) ⟨x.ml, q, x.me, x.te⟩ (.bool q) (by rw [hx]; rfl)
  have h4 := AggsAt.set (by rw [List.length_set]; exact hN) h2.1 encS_len j (by rw [List.length_set]; omega) 3 (by decide) ⟨x.ml, q, x.me, s⟩ (.bool s) (by rw [List.getElem_set_self]; rfl)
  rw [List.set_set] at h4
  exact ⟨h4.1, gb_tr h2.2 h4.2⟩
/-- four fields of one element, in the law's order -/
theorem OwnS.four {w : World} {base g N c : Nat} {xs : List Sh} (h : OwnS w base (.slice (some ⟨g, 0, none⟩) N c) xs) (hN : xs.length = N) (j : Nat) (hj : j < N) {x : Sh} (hx : xs[j]'(by omega) = x) (p q r s : Bool) :
    OwnS ((((w.setCell ⟨g, j * 4, none⟩ (.bool p)).setCell ⟨g, j * 4 + 2, none⟩ (.bool r)).setCell ⟨g, j * 4 + 1, none⟩ (.bool q)).setCell ⟨g, j * 4 + 3, none⟩ (.bool s)) base (.slice (some ⟨g, 0, none⟩) N c) (xs.set j ⟨p, q, r, s⟩) ∧
    w.grownBy ((((w.setCell ⟨g, j * 4, none⟩ (.bool p)).setCell ⟨g, j * 4 + 2, none⟩ (.bool r)).setCell ⟨g, j * 4 + 1, none⟩ (.bool q)).setCell ⟨g, j * 4 + 3, none⟩ (.bool s)) (some g) := by
  have h1 := AggsAt.set hN h encS_len j (by omega) 0 (by decide) ⟨p, x.tl, x.me, x.te⟩ (.bool p) (by rw [hx]; rfl)
  have h2 := AggsAt.set (by rw [List.length_set]; exact hN) h1.1 encS_len j (by rw [List.length_set]; omega) 2 (by decide) ⟨p, x.tl, r, x.te⟩ (.bool r) (by rw [List.getElem_set_self]; rfl)
  have h3 := AggsAt.set (by rw [List.length_set, List.length_set]; exact hN) h2.1 encS_len j (by rw [List.length_set, List.length_set]; omega) 1 (by decide) ⟨p, q, r, x.te⟩ (.bool q) (by rw [List.getElem_set_self]; rfl)
  have h4 := AggsAt.set (by rw [List.length_set, List.length_set, List.length_set]; exact hN) h3.1 encS_len j (by rw [List.length_set, List.length_set, List.length_set]; omega) 3 (by decide) ⟨p, q, r, s⟩ (.bool s) (by rw [List.getElem_set_self]; rfl)
  rw [List.set_set, List.set_set, List.set_set] at h4
  exact ⟨h4.1, gb_tr (gb_tr (gb_tr h1.2 h2.2) h3.2) h4.2⟩
set_option maxRecDepth 100000 in
set_option maxHeartbeats 16000000 in
theorem shades_walk (la : Option Addr) (len cap : Nat) (zs : List Int) (W0 : World) (hr : IsRow .i64 W0 la len cap zs) (h : STabs W0) :
    Calls Tryd.prog 4 #[.slice la len cap] W0 fun e w' => e = .returned (.bool true) ∧ Below W0.heap.size W0 w' := by
  have hl : len ≤ 9223372036854775807 := by
    rcases hr with ⟨_, h, _⟩ | ⟨_, _, h1, h2, _⟩
    · omega
    · unfold maxLen at h2; omega
  have H0 := Lib.hid h
  have HR := Lib.hid hr
  clear h hr
  by_cases h4 : len ≤ 400
  · have t1 : decide ((len : Int) ≤ 400) = true := decide_eq_true (by omega)
    go_enter Tryd.func4, Tryd.ntmps4
    go_wp2_with fail
    refine (few_any _ _ _ _ hl).mono ?_; rintro e w' ⟨rfl, rfl⟩
    go_wp2_with fail
    refine (newg_any _ _ _ _).mono ?_; rintro e w1 ⟨rfl, g1⟩
    have hbw := g1.lt
    obtain ⟨bd, hbd⟩ : ∃ b, W0.heap.size = b := ⟨_, rfl⟩
    have HB := Lib.hid hbd
    rw [hbd] at hbw g1 ⊢
    clear hbd h4 t1 hl
    go_wp2_with fail
    refine (network_is (nodes := 6) (devices := 10) g1 HR.out (by decide) (by decide) (by decide) (by decide)).mono ?_
    rintro e W2 ⟨vn, vd, ns, ds, rfl, g2, rn, rdd, gn, gd, n1, n2, d1, d2⟩
    obtain ⟨an, cn, ad, cd, rfl, rfl, ni, z1, z2⟩ := rows_net rn rdd (by omega) gn gd hbw
    obtain ⟨N, hN⟩ : ∃ N, ns.length = N := ⟨_, rfl⟩
    obtain ⟨M, hM⟩ : ∃ M, ds.length = M := ⟨_, rfl⟩
    have CHK := Lib.hid (good_chk (by omega) (by omega) gn gd)
    rw [hN] at n1 n2 ni ⊢
    rw [hM] at d1 d2 ni ⊢
    have bx := below_box W2 (.cells #[.slice an N cn, .slice ad M cd] 26)
    have NT := Lib.hid (NtAt.new W2 (.slice an N cn) (.slice ad M cd) 26)
    have G3 := Lib.hid (g2.alloc (.cells #[.slice an N cn, .slice ad M cd] 26))
    have NF3 : Hid (NF (W2.alloc (.cells #[.slice an N cn, .slice ad M cd] 26)) bd an ad N cn M cd ns ds) := ⟨ni.below bx, z1, z2⟩
    have hb2 := g2.lt
    obtain ⟨g, hg⟩ : ∃ g, W2.heap.size = g := ⟨_, rfl⟩
    rw [hg] at NT hb2
    obtain ⟨W3, hW3⟩ : ∃ W3, W2.alloc (.cells #[.slice an N cn, .slice ad M cd] 26) = W3 := ⟨_, rfl⟩
    have hs3 : W3.heap.size = g + 1 := by rw [← hW3, World.size_alloc, hg]
    rw [hW3] at NT G3 NF3
    have hgb : g ≠ bd := by omega
    have k1 := NT.out.1
    have k2 := NT.out.2.1
    have gm0 := G3.out
    have gr0 := gb_refl W3 (some bd)
    have HDM := Lib.hid hM
    have HDN := Lib.hid hN
    have h64 : M ≤ 64 := by omega
    have h32 : N ≤ 32 := by omega
    clear rn rdd gn gd hN hM ni z1 z2 g1 g2 hbw bx
    go_wp2_with fail
    (try rw [hW3])
    clear hW3 hg
    refine (masks_is gm0 HR.out an ad N cn M cd ns ds (NF3.out.keep2 gr0) (by omega) (by omega) 5 (by decide)).mono ?_
    rintro e w4 ⟨v, S, rfl, own, hS, hSm, hSu, gm4, gb4⟩
    obtain ⟨aS, cS, rfl, lS, lSo⟩ := own.lin
    rw [hS] at own lS ⊢
    have c0 := gb_cell k1 gb4 hgb
    have c1 := gb_cell k2 gb4 hgb
    have B4 := Lib.hid gm4.below
    have HT := Lib.hid (fun wr (b : Below w4.heap.size w4 wr) => H0.out.below (gm4.below.trans (b.mono gm4.below.size)))
    have NI := Lib.hid (fun wr (b : Below w4.heap.size w4 wr) => (NF3.out.keep gb4).below b)
    have LS := Lib.hid (fun wr (b : Below w4.heap.size w4 wr) => lS.below b)
    have C0 := Lib.hid (fun wr (b : Below w4.heap.size w4 wr) => (b.cell (p := ⟨g, 0, none⟩) (World.block_lt_of_cell? w4 _ c0)).trans c0)
    have C1 := Lib.hid (fun wr (b : Below w4.heap.size w4 wr) => (b.cell (p := ⟨g, 1, none⟩) (World.block_lt_of_cell? w4 _ c1)).trans c1)
    have HS := Lib.hid hS
    have HSM := Lib.hid hSm
    have s1 := lS.cap
    have s2 := lS.max
    have nin := NF3.out.keep gb4
    have n3 := nin.ncap
    have n4 := nin.nmax
    have hsz4 := gb4.size
    rw [hs3] at hsz4
    unfold maxLen at s2 n4
    have hlS : S.length = ds.length := by rw [hS, HDM.out]
    have CM : Hid (chkM 1 ns ds S = 0) := by
      show _ = _
      unfold chkM
      rw [if_pos CHK.out, if_pos hlS, if_pos (show S.all (hB 1) = true from hSm)]
    have CST := Lib.hid (fun k => show chkM 2 ns ds (stL S k) = 0 from pos_chk CHK.out (by rw [stL_len]; exact hlS) (fun s hs => by
      obtain ⟨i, hi, rfl⟩ := List.mem_iff_getElem.1 hs
      rw [stL_len] at hi
      rw [← at0_get (by rw [stL_len]; exact hi), stL_at hi]
      exact stA_in (mB_iff.1 (all_iff.1 hSm i hi))))
    obtain ⟨U, hU⟩ : ∃ u, (unkL S).length = u := ⟨_, rfl⟩
    rw [hU] at hSu
    obtain ⟨ey, ez⟩ := count_yes hSm (by rw [hU]; omega)
    obtain ⟨K, hK⟩ : ∃ k, 2 ^ U = k := ⟨_, rfl⟩
    have hK1 : 1 ≤ K := by rw [← hK]; exact Nat.pow_pos (by decide)
    have hK32 : K ≤ 32 := by
      rw [← hK]
      exact Nat.pow_le_pow_right (n := 2) (by decide) hSu
    have HK := Lib.hid (show 2 ^ (unkL S).length = K by rw [hU]; exact hK)
    have FIN0 := Lib.hid (shL_fd (N := N) hlS HK.out)
    have EZ := Lib.hid ez
    clear nin gm0 gr0 NT G3 own lS lSo gm4 gb4 hS hSm k1 k2 ey ez hU hK hlS
    have m0 := C0.out _ (Below.refl _ _)
    have m1 := C1.out _ (Below.refl _ _)
    clear c0 c1
    go_wp2_with fail
    refine (Shades_is an ad _ N cn M cd M cS ns ds S 0 _ (HT.out _ (Below.refl _ _)) (NI.out _ (Below.refl _ _)) (LS.out _ (Below.refl _ _)) CM.out).mono ?_
    rintro e w5 ⟨v, rfl, own, b5⟩
    rw [if_pos rfl, FIN0.out] at own
    obtain ⟨aH, cH, rfl, hH⟩ := own.sin
    rw [fdL_len] at hH ⊢
    have h1 := hH.cap
    have h2 := hH.max
    have SH := Lib.hid (fun wr (b : Below w5.heap.size w5 wr) => hH.below b)
    have E5 := Lib.hid b5
    have m0 := C0.out _ b5
    have m1 := C1.out _ b5
    unfold maxLen at h2
    clear own hH b5
    go_wp2_with fail
    refine (all_is aS M cS S _ (HT.out _ E5.out).flg (LS.out _ E5.out) h64).mono ?_
    rintro e w6 ⟨v, rfl, hv, b6⟩
    rw [EZ.out, if_pos rfl] at hv
    rw [EZ.out]
    obtain ⟨ar, cr, rfl, hcr, hcr2⟩ := hv.length
    rw [allL_len, HK.out] at hv hcr ⊢
    have hz6 := b6.size
    obtain ⟨gr, -, -, rfl, hgr, hgr2, -, -, -⟩ := hv.get 0 (by rw [allL_len, HK.out]; omega)
    have E6 := Lib.hid (E5.out.trans (b6.mono E5.out.size))
    have ROW := Lib.hid (fun i (hi : i < K) => (by
      obtain ⟨g', q, cq, e, -, -, r1, r2, r3⟩ := hv.get i (by rw [allL_len, HK.out]; exact hi)
      cases e
      have e2 : (allL S)[i]'(by rw [allL_len, HK.out]; exact hi) = stL S i := by
        have := allL_get (xs := S) (i := i) (by rw [HK.out]; exact hi)
        rw [List.getElem?_eq_getElem (by rw [allL_len, HK.out]; exact hi)] at this
        exact Option.some.inj this
      rw [e2, stL_len, HS.out] at r1 r2
      exact ⟨q, cq, r1, r2⟩ : ∃ q cq, w6.cell? ⟨gr, i, none⟩ = some (.slice q M cq) ∧ LIn w6 q M cq (stL S i)))
    have SH := Lib.hid (fun wr (b : Below w6.heap.size w6 wr) => SH.out _ (b6.trans (b.mono b6.size)))
    have m0 := C0.out _ E6.out
    have m1 := C1.out _ E6.out
    unfold maxLen at hcr2
    clear b6 hv
    have T0 : ((K : Int) == 0) = false := beq_eq_false_iff_ne.2 (by omega)
    have hmk := make_shades N (by omega) w6
    have O0 := OwnS.made w6 N (by omega)
    have bz := below_box w6 (.cells (madeCells #[.bool false, .bool false, .bool false, .bool false] (N * 4)) 55)
    obtain ⟨sb, hsb⟩ : ∃ s, w6.heap.size = s := ⟨_, rfl⟩
    obtain ⟨w7, hw7⟩ : ∃ w7, w6.alloc (.cells (madeCells #[.bool false, .bool false, .bool false, .bool false] (N * 4)) 55) = w7 := ⟨_, rfl⟩
    have z7 : w7.heap.size = sb + 1 := by rw [← hw7]; simp; exact hsb
    have SHO := Lib.hid (SIn.off (SH.out _ (Below.refl _ _)) (k := sb) (by omega))
    have NIO := Lib.hid (NetIn.nf (NI.out _ E6.out) (k := sb) (by omega))
    have HGS : g < sb := by have h := World.block_lt_of_cell? w6 _ m0; simp only at h; omega
    have E7 := Lib.hid (E6.out.trans (bz.mono E6.out.size))
    rw [hw7] at bz E7
    have SH := Lib.hid (SH.out _ bz)
    have ROW := Lib.hid (fun i (hi : i < K) => (by
      obtain ⟨q, cq, r1, r2⟩ := ROW.out i hi
      exact ⟨q, cq, (bz.cell (p := ⟨gr, i, none⟩) hgr2).trans r1, r2.below bz, fun hp => LIn.off r2 (k := sb) (by omega) hp⟩ : ∃ q cq, w7.cell? ⟨gr, i, none⟩ = some (.slice q M cq) ∧ LIn w7 q M cq (stL S i) ∧ (0 < M → ∀ p, q = some p → some p.block ≠ some sb)))
    rw [hw7, hsb] at hmk O0
    have hz46 := E6.out.size
    rw [hsb] at hgr2 hz6 hz46
    have O0 := Lib.hid O0
    have M0 := Lib.hid (C0.out _ E7.out)
    have M1 := Lib.hid (C1.out _ E7.out)
    have NI7 := Lib.hid (NI.out _ E7.out)
    have Z7 := Lib.hid z7
    clear bz z7 hsb
    go_wp2_with fail
    clear hmk hw7 m0 m1
    go_loopw [66] (fun i wr => ∃ k : Nat, k ≤ N ∧ i = .int .i64 k ∧ Hid (OwnS wr sb (.slice (some ⟨sb, 0, none⟩) N N) (psL (List.replicate N ⟨false, true, false, true⟩) k)) ∧ Hid (w7.grownBy wr (some sb))) (fun i _ => N - (intOf i).toNat)
    case atStart => exact ⟨0, Nat.zero_le _, rfl, by show OwnS _ _ _ _; rw [psL_zero, List.length_replicate]; exact O0.out, gb_refl _ _⟩
    case round =>
      clear O0
      obtain ⟨v, hk, rfl, own, gb⟩ := hrel
      by_cases hlt : v < N
      · have hf := own.out.frozen (by rw [psL_len, List.length_replicate]) (by omega)
        obtain ⟨s, s0, s1, s2, s3⟩ := own.out.cells (by rw [psL_len, List.length_replicate]) v hlt
        have f1 := hf (v * 4 + 1)
        have f3 := hf (v * 4 + 3)
        have st := own.out.two (by rw [psL_len, List.length_replicate]) v hlt (x := default) (by simp [psL]) true true
        rw [show (⟨(default : Sh).ml, true, (default : Sh).me, true⟩ : Sh) = ⟨false, true, false, true⟩ from rfl, psL_step (by rw [List.length_replicate]; exact hlt) (by simp)] at st
        have NU := Lib.hid st.1
        have NG := Lib.hid (gb_tr gb.out st.2)
        clear st hf own gb
        go_wp2
        go_roundw
        case rel => exact ⟨v + 1, by omega, by go_num, NU, NG⟩
        case measure => simp [intOf]; omega
      · obtain rfl : v = N := by omega
        have OW0 : Hid (OwnS wr sb (.slice (some ⟨sb, 0, none⟩) v v) (fdL ds S v 0)) := by
          show OwnS _ _ _ _
          rw [← fdL_start]
          have := own.out
          rwa [show psL (List.replicate v (⟨false, true, false, true⟩ : Sh)) v = List.replicate v ⟨false, true, false, true⟩ by have e := psL_end (List.replicate v (⟨false, true, false, true⟩ : Sh)); rwa [List.length_replicate] at e] at this
        have G0 := Lib.hid gb.out
        clear own gb
        go_wp2_with fail
        go_loopw [80] (fun i wr => ∃ k : Nat, k ≤ K ∧ i = .int .i64 k ∧ Hid (OwnS wr sb (.slice (some ⟨sb, 0, none⟩) v v) (fdL ds S v k)) ∧ Hid (w7.grownBy wr (some sb))) (fun i _ => K - (intOf i).toNat)
        case atStart => exact ⟨0, Nat.zero_le _, rfl, OW0, G0⟩
        case round =>
          clear OW0 G0
          obtain ⟨k, hk, rfl, own, gb⟩ := hrel
          rename_i N0
          obtain ⟨N, rfl⟩ : ∃ N, N = v := ⟨_, rfl⟩
          by_cases hlt : k < K
          · obtain ⟨q, cq, r1, r2, r3⟩ := ROW.out k hlt
            have r1 := gb.out.cell r1 (by show some gr ≠ some sb; simp; omega)
            have r2 := r2.grown gb.out r3
            have m0 := gb.out.cell M0.out (by show some g ≠ some sb; simp; omega)
            have m1 := gb.out.cell M1.out (by show some g ≠ some sb; simp; omega)
            have qk : (k : Int) < (K : Int) := by omega
            have EW := Lib.hid (E7.out.grown gb.out E7.out.size (fun j hj => by cases hj; omega))
            have CC := Lib.hid (Colours_is an ad q N cn M cd M cq ns ds (stL S k) 0 wr (HT.out _ EW.out) (NF.keep ⟨NI7.out, NIO.out⟩ gb.out) r2 (CST.out k))
            clear r2 r3
            go_wp2_with fail
            refine CC.out.mono ?_
            rintro e w8 ⟨vc, rfl, oc, b8⟩
            rw [if_pos rfl] at oc
            obtain ⟨aC, cC, rfl, lC, -⟩ := oc.lin
            rw [coL_len] at lC ⊢
            have t1 := lC.cap
            have t2 := lC.max
            have OW8 : Hid (OwnS w8 sb (.slice (some ⟨sb, 0, none⟩) N N) (fdL ds S N k)) := AggsAt.below own.out b8
            have GB8 := Lib.hid (gb_be gb.out b8)
            have LC := Lib.hid lC
            have hsC : sb < wr.heap.size := by have := gb.out.size; have := Z7.out; omega
            have LCO : Hid (0 < N → ∀ p, aC = some p → some p.block ≠ some sb) := fun hp p hq e => by
              obtain ⟨aC', cC', e9, -, lo⟩ := oc.lin
              cases e9
              have := lo p hq
              injection e with e
              omega
            unfold maxLen at t2
            clear own gb CC b8 lC oc r1 m0 m1
            go_wp2_with fail
            go_loopw [101] (fun i wr => ∃ v : Nat, v ≤ N ∧ i = .int .i64 v ∧ Hid (OwnS wr sb (.slice (some ⟨sb, 0, none⟩) N N) (mxL ds S N k v)) ∧ Hid (w8.grownBy wr (some sb))) (fun i _ => N - (intOf i).toNat)
            case atStart => exact ⟨0, Nat.zero_le _, rfl, by show OwnS _ _ _ _; rw [mxL_zero]; exact OW8.out, gb_refl _ _⟩
            case round =>
              clear OW8
              obtain ⟨v, hv, rfl, own, gb⟩ := hrel
              by_cases hlt : v < N
              · obtain ⟨gc, oc, hce, -, hcc⟩ := (LC.out.grown gb.out LCO.out).rin.some (by rw [coL_len]; omega)
                have rc := cells_i hcc v (by rw [coL_len]; exact hlt)
                rw [coL_at hlt] at rc
                have x0 := bits_b1 (colr_in ds (stL S k) v)
                have x1 := bits_b2 (colr_in ds (stL S k) v)
                obtain ⟨lv, hlv⟩ : ∃ b, b1 (colr ds (stL S k) v) = b := ⟨_, rfl⟩
                obtain ⟨er, her⟩ : ∃ b, b2 (colr ds (stL S k) v) = b := ⟨_, rfl⟩
                rw [hlv] at x0
                rw [her] at x1
                subst hce
                obtain ⟨X, hX⟩ : ∃ X, fdS ds S k v = X := ⟨_, rfl⟩
                have HX := Lib.hid hX
                have HLV := Lib.hid hlv
                have HER := Lib.hid her
                clear hcc hX hlv her
                generalize colr ds (stL S k) v = C at rc x0 x1
                go_wp2_with fail
                go_quiet (fail)
                rename_i nq
                have own2 : Hid (OwnS (wr.drewN nq) sb (.slice (some ⟨sb, 0, none⟩) N N) (mxL ds S N k v)) := own.out
                have gb2 : Hid (w8.grownBy (wr.drewN nq) (some sb)) := gb_drewN nq gb.out
                generalize wr.drewN nq = Z at own2 gb2 ⊢
                clear own gb rc x0 x1
                have hf := own2.out.frozen (by rw [mxL_len]) (by omega)
                have f0 := hf (v * 4)
                have f1 := hf (v * 4 + 1)
                have f2 := hf (v * 4 + 2)
                have f3 := hf (v * 4 + 3)
                obtain ⟨s0, s1, s2, s3⟩ := own2.out.cellsx (by rw [mxL_len]) v hlt ((mxL_get hlt).trans HX.out)
                clear hf
                obtain ⟨xa, xb, xc, xd⟩ := X
                dsimp only at s0 s1 s2 s3
                cases xa <;> cases xb <;> cases xc <;> cases xd
                · have st := own2.out.four (by rw [mxL_len]) v hlt (mxL_get hlt) lv false er false
                  rw [show (⟨lv, false, er, false⟩ : Sh) = fdS ds S (k + 1) v by rw [fdS, HX.out]; unfold ups; rw [HLV.out, HER.out]; rfl, mxL_step hlt] at st
                  have NU := Lib.hid st.1
                  have NG := Lib.hid (gb_tr gb2.out st.2)
                  clear st own2 gb2
                  go_wp2
                  go_roundw
                  case rel => exact ⟨v + 1, by omega, by go_num, NU, NG⟩
                  case measure => simp [intOf]; omega
                · have st := own2.out.four (by rw [mxL_len]) v hlt (mxL_get hlt) lv false er er
                  rw [show (⟨lv, false, er, er⟩ : Sh) = fdS ds S (k + 1) v by rw [fdS, HX.out]; unfold ups; rw [HLV.out, HER.out]; rfl, mxL_step hlt] at st
                  have NU := Lib.hid st.1
                  have NG := Lib.hid (gb_tr gb2.out st.2)
                  clear st own2 gb2
                  go_wp2
                  go_roundw
                  case rel => exact ⟨v + 1, by omega, by go_num, NU, NG⟩
                  case measure => simp [intOf]; omega
                · have st := own2.out.four (by rw [mxL_len]) v hlt (mxL_get hlt) lv false true false
                  rw [show (⟨lv, false, true, false⟩ : Sh) = fdS ds S (k + 1) v by rw [fdS, HX.out]; unfold ups; rw [HLV.out, HER.out]; rfl, mxL_step hlt] at st
                  have NU := Lib.hid st.1
                  have NG := Lib.hid (gb_tr gb2.out st.2)
                  clear st own2 gb2
                  go_wp2
                  go_roundw
                  case rel => exact ⟨v + 1, by omega, by go_num, NU, NG⟩
                  case measure => simp [intOf]; omega
                · have st := own2.out.four (by rw [mxL_len]) v hlt (mxL_get hlt) lv false true er
                  rw [show (⟨lv, false, true, er⟩ : Sh) = fdS ds S (k + 1) v by rw [fdS, HX.out]; unfold ups; rw [HLV.out, HER.out]; rfl, mxL_step hlt] at st
                  have NU := Lib.hid st.1
                  have NG := Lib.hid (gb_tr gb2.out st.2)
                  clear st own2 gb2
                  go_wp2
                  go_roundw
                  case rel => exact ⟨v + 1, by omega, by go_num, NU, NG⟩
                  case measure => simp [intOf]; omega
                · have st := own2.out.four (by rw [mxL_len]) v hlt (mxL_get hlt) lv lv er false
                  rw [show (⟨lv, lv, er, false⟩ : Sh) = fdS ds S (k + 1) v by rw [fdS, HX.out]; unfold ups; rw [HLV.out, HER.out]; rfl, mxL_step hlt] at st
                  have NU := Lib.hid st.1
                  have NG := Lib.hid (gb_tr gb2.out st.2)
                  clear st own2 gb2
                  go_wp2
                  go_roundw
                  case rel => exact ⟨v + 1, by omega, by go_num, NU, NG⟩
                  case measure => simp [intOf]; omega
                · have st := own2.out.four (by rw [mxL_len]) v hlt (mxL_get hlt) lv lv er er
                  rw [show (⟨lv, lv, er, er⟩ : Sh) = fdS ds S (k + 1) v by rw [fdS, HX.out]; unfold ups; rw [HLV.out, HER.out]; rfl, mxL_step hlt] at st
                  have NU := Lib.hid st.1
                  have NG := Lib.hid (gb_tr gb2.out st.2)
                  clear st own2 gb2
                  go_wp2
                  go_roundw
                  case rel => exact ⟨v + 1, by omega, by go_num, NU, NG⟩
                  case measure => simp [intOf]; omega
                · have st := own2.out.four (by rw [mxL_len]) v hlt (mxL_get hlt) lv lv true false
                  rw [show (⟨lv, lv, true, false⟩ : Sh) = fdS ds S (k + 1) v by rw [fdS, HX.out]; unfold ups; rw [HLV.out, HER.out]; rfl, mxL_step hlt] at st
                  have NU := Lib.hid st.1
                  have NG := Lib.hid (gb_tr gb2.out st.2)
                  clear st own2 gb2
                  go_wp2
                  go_roundw
                  case rel => exact ⟨v + 1, by omega, by go_num, NU, NG⟩
                  case measure => simp [intOf]; omega
                · have st := own2.out.four (by rw [mxL_len]) v hlt (mxL_get hlt) lv lv true er
                  rw [show (⟨lv, lv, true, er⟩ : Sh) = fdS ds S (k + 1) v by rw [fdS, HX.out]; unfold ups; rw [HLV.out, HER.out]; rfl, mxL_step hlt] at st
                  have NU := Lib.hid st.1
                  have NG := Lib.hid (gb_tr gb2.out st.2)
                  clear st own2 gb2
                  go_wp2
                  go_roundw
                  case rel => exact ⟨v + 1, by omega, by go_num, NU, NG⟩
                  case measure => simp [intOf]; omega
                · have st := own2.out.four (by rw [mxL_len]) v hlt (mxL_get hlt) true false er false
                  rw [show (⟨true, false, er, false⟩ : Sh) = fdS ds S (k + 1) v by rw [fdS, HX.out]; unfold ups; rw [HLV.out, HER.out]; rfl, mxL_step hlt] at st
                  have NU := Lib.hid st.1
                  have NG := Lib.hid (gb_tr gb2.out st.2)
                  clear st own2 gb2
                  go_wp2
                  go_roundw
                  case rel => exact ⟨v + 1, by omega, by go_num, NU, NG⟩
                  case measure => simp [intOf]; omega
                · have st := own2.out.four (by rw [mxL_len]) v hlt (mxL_get hlt) true false er er
                  rw [show (⟨true, false, er, er⟩ : Sh) = fdS ds S (k + 1) v by rw [fdS, HX.out]; unfold ups; rw [HLV.out, HER.out]; rfl, mxL_step hlt] at st
                  have NU := Lib.hid st.1
                  have NG := Lib.hid (gb_tr gb2.out st.2)
                  clear st own2 gb2
                  go_wp2
                  go_roundw
                  case rel => exact ⟨v + 1, by omega, by go_num, NU, NG⟩
                  case measure => simp [intOf]; omega
                · have st := own2.out.four (by rw [mxL_len]) v hlt (mxL_get hlt) true false true false
                  rw [show (⟨true, false, true, false⟩ : Sh) = fdS ds S (k + 1) v by rw [fdS, HX.out]; unfold ups; rw [HLV.out, HER.out]; rfl, mxL_step hlt] at st
                  have NU := Lib.hid st.1
                  have NG := Lib.hid (gb_tr gb2.out st.2)
                  clear st own2 gb2
                  go_wp2
                  go_roundw
                  case rel => exact ⟨v + 1, by omega, by go_num, NU, NG⟩
                  case measure => simp [intOf]; omega
                · have st := own2.out.four (by rw [mxL_len]) v hlt (mxL_get hlt) true false true er
                  rw [show (⟨true, false, true, er⟩ : Sh) = fdS ds S (k + 1) v by rw [fdS, HX.out]; unfold ups; rw [HLV.out, HER.out]; rfl, mxL_step hlt] at st
                  have NU := Lib.hid st.1
                  have NG := Lib.hid (gb_tr gb2.out st.2)
                  clear st own2 gb2
                  go_wp2
                  go_roundw
                  case rel => exact ⟨v + 1, by omega, by go_num, NU, NG⟩
                  case measure => simp [intOf]; omega
                · have st := own2.out.four (by rw [mxL_len]) v hlt (mxL_get hlt) true lv er false
                  rw [show (⟨true, lv, er, false⟩ : Sh) = fdS ds S (k + 1) v by rw [fdS, HX.out]; unfold ups; rw [HLV.out, HER.out]; rfl, mxL_step hlt] at st
                  have NU := Lib.hid st.1
                  have NG := Lib.hid (gb_tr gb2.out st.2)
                  clear st own2 gb2
                  go_wp2
                  go_roundw
                  case rel => exact ⟨v + 1, by omega, by go_num, NU, NG⟩
                  case measure => simp [intOf]; omega
                · have st := own2.out.four (by rw [mxL_len]) v hlt (mxL_get hlt) true lv er er
                  rw [show (⟨true, lv, er, er⟩ : Sh) = fdS ds S (k + 1) v by rw [fdS, HX.out]; unfold ups; rw [HLV.out, HER.out]; rfl, mxL_step hlt] at st
                  have NU := Lib.hid st.1
                  have NG := Lib.hid (gb_tr gb2.out st.2)
                  clear st own2 gb2
                  go_wp2
                  go_roundw
                  case rel => exact ⟨v + 1, by omega, by go_num, NU, NG⟩
                  case measure => simp [intOf]; omega
                · have st := own2.out.four (by rw [mxL_len]) v hlt (mxL_get hlt) true lv true false
                  rw [show (⟨true, lv, true, false⟩ : Sh) = fdS ds S (k + 1) v by rw [fdS, HX.out]; unfold ups; rw [HLV.out, HER.out]; rfl, mxL_step hlt] at st
                  have NU := Lib.hid st.1
                  have NG := Lib.hid (gb_tr gb2.out st.2)
                  clear st own2 gb2
                  go_wp2
                  go_roundw
                  case rel => exact ⟨v + 1, by omega, by go_num, NU, NG⟩
                  case measure => simp [intOf]; omega
                · have st := own2.out.four (by rw [mxL_len]) v hlt (mxL_get hlt) true lv true er
                  rw [show (⟨true, lv, true, er⟩ : Sh) = fdS ds S (k + 1) v by rw [fdS, HX.out]; unfold ups; rw [HLV.out, HER.out]; rfl, mxL_step hlt] at st
                  have NU := Lib.hid st.1
                  have NG := Lib.hid (gb_tr gb2.out st.2)
                  clear st own2 gb2
                  go_wp2
                  go_roundw
                  case rel => exact ⟨v + 1, by omega, by go_num, NU, NG⟩
                  case measure => simp [intOf]; omega
              · have hvN : v = N := by omega
                have OWN : Hid (OwnS wr sb (.slice (some ⟨sb, 0, none⟩) N N) (fdL ds S N (k + 1))) := by
                  show OwnS _ _ _ _
                  have := own.out
                  rw [hvN, mxL_end] at this
                  exact this
                have GBN := Lib.hid (gb_tr GB8.out gb.out)
                clear own gb hvN
                go_wp2
                go_roundw
                case rel => exact ⟨k + 1, by omega, by go_num, OWN, GBN⟩
                case measure => simp [intOf]; omega
          · obtain rfl : k = K := by omega
            have EW := Lib.hid (E7.out.grown gb.out E7.out.size (fun j hj => by cases hj; omega))
            obtain ⟨a9, c9, e9, so⟩ := own.out.sin
            rw [fdL_len] at e9 so
            cases e9
            have SM := Lib.hid (same_is aH (some ⟨sb, 0, none⟩) N cH N N _ _ true wr (SH.out.grown gb.out SHO.out) so (decide_eq_true rfl))
            clear own so gb
            go_wp2_with fail
            refine SM.out.mono ?_
            rintro e w9 ⟨rfl, n, rfl⟩
            have EX := Lib.hid (below_drewN EW.out n)
            have AW := Lib.hid (awake_is (wr.drewN n) (HT.out _ EX.out))
            have BX := Lib.hid (B4.out.trans (EX.out.mono B4.out.size))
            clear SM
            go_wp2_with fail
            refine AW.out.mono ?_; rintro e w10 ⟨rfl, b10⟩
            have BZ := Lib.hid (BX.out.trans (b10.mono BX.out.size))
            clear b10 AW
            go_wp2
            go_ret
            exact ⟨rfl, BZ.out⟩
  · have t1 : decide ((len : Int) ≤ 400) = false := decide_eq_false (by omega)
    go_enter Tryd.func4, Tryd.ntmps4
    go_wp2_with fail
    refine (few_any _ _ _ _ hl).mono ?_; rintro e w' ⟨rfl, rfl⟩
    go_wp2_with fail
    refine (awake_is _ H0.out).mono ?_; rintro e w4 ⟨rfl, b4⟩
    have BZ := Lib.hid b4
    clear b4
    go_wp2
    go_ret
    exact ⟨rfl, BZ.out⟩
end Go.Proofs.YtoeojhabhnoojaaDoor.col
