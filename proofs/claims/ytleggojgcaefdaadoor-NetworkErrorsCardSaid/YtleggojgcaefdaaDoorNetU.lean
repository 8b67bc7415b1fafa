/- For every list of numbers and every number NetworkErrors returns true: of one thing that is wrong with a network the error says what it is. Condition: the table 'classes' holds what the program's text lays (the card ties that). -/
import Derived.Test.YtleggojgcaefdaaDoorNetT
import Derived.RegionTactic
import Derived.BigRegion
import Derived.Deep.RegionHeld3
namespace Go.Proofs.YtleggojgcaefdaaDoor.net
open Go.RowKit lex aggs kit deck

theorem net_of_rows {w : World} {base : Nat} {a b : Option Addr} {N c M d : Nat} {ns : List Nd} {ds : List Dv} (hn : AggsAt 56 3 encNd w base (.slice a N c) ns) (hd : AggsAt 54 5 encDv w base (.slice b M d) ds) (h1 : ns.length = N) (h2 : ds.length = M)
    (hsz : ∀ x ∈ ns, x.nm.size ≤ maxLen) (hf : ∀ x ∈ ds, Fits x) : NetIn w a b N c M d ns ds := by
  have l1 : RIn encNd 3 w a ns ∧ N ≤ c ∧ c ≤ maxLen := by
    rcases hn.shape encNd_len with ⟨e, rfl⟩ | ⟨g, cap, e, q1, q2, q3, q4, q5, _⟩
    · injection e with e1 e2 e3
      subst e1 e2 e3
      exact ⟨.inl ⟨rfl, rfl⟩, Nat.le_refl _, Nat.zero_le _⟩
    · injection e with e1 e2 e3
      subst e1 e3
      exact ⟨.inr ⟨g, 0, rfl, q2, q5⟩, by omega, q4⟩
  have l2 : RIn encDv 5 w b ds ∧ M ≤ d ∧ d ≤ maxLen := by
    rcases hd.shape encDv_len with ⟨e, rfl⟩ | ⟨g, cap, e, q1, q2, q3, q4, q5, _⟩
    · injection e with e1 e2 e3
      subst e1 e2 e3
      exact ⟨.inl ⟨rfl, rfl⟩, Nat.le_refl _, Nat.zero_le _⟩
    · injection e with e1 e2 e3
      subst e1 e3
      exact ⟨.inr ⟨g, 0, rfl, q2, q5⟩, by omega, q4⟩
  exact ⟨h1, h2, l1.1, l2.1, hsz, hf, l1.2.1, l1.2.2, l2.2.1, l2.2.2⟩
theorem mem_set {α : Type} {l : List α} {v : Nat} {x y : α} (h : y ∈ l.set v x) : y ∈ l ∨ y = x := by
  rcases List.mem_or_eq_of_mem_set h with h | h
  · exact .inl h
  · exact .inr h
theorem err_keep {w0 WS X Y : World} {g B : Nat} {vn vd : Value} (h : X.cell? ⟨g, 0, none⟩ = some vn ∧ X.cell? ⟨g, 1, none⟩ = some vd ∧ Below B WS X) (hg : g < X.heap.size) (b : Below X.heap.size X Y) (hB : B ≤ X.heap.size) :
    Y.cell? ⟨g, 0, none⟩ = some vn ∧ Y.cell? ⟨g, 1, none⟩ = some vd ∧ Below B WS Y :=
  ⟨by rw [b.cell (p := ⟨g, 0, none⟩) hg]; exact h.1, by rw [b.cell (p := ⟨g, 1, none⟩) hg]; exact h.2.1, h.2.2.trans (b.mono hB)⟩
theorem err_all {W X : World} {g : Nat} {vn vd : Value} (l1 : W.cell? ⟨g, 0, none⟩ = some vn) (l2 : W.cell? ⟨g, 1, none⟩ = some vd) (l3 : g < W.heap.size) (b : Below W.heap.size W X) :
    X.cell? ⟨g, 0, none⟩ = some vn ∧ X.cell? ⟨g, 1, none⟩ = some vd ∧ Below W.heap.size W X :=
  ⟨by rw [b.cell (p := ⟨g, 0, none⟩) l3]; exact l1, by rw [b.cell (p := ⟨g, 1, none⟩) l3]; exact l2, b⟩
/-- what an arm leaves: the network's cells, a network with one fault, and what Check says of it -/
structure Fault (w W : World) (g : Nat) (a b : Option Addr) (N c M d : Nat) (E : Int) : Prop where
  nt : NtAt W g (.slice a N c) (.slice b M d)
  bel : Below w.heap.size w W
  net : ∃ ns ds, NetIn W a b N c M d ns ds ∧ chk ns ds = E
set_option maxRecDepth 100000 in
set_option maxHeartbeats 8000000 in
theorem errors_walk (a : Option Addr) (len cap : Nat) (zs : List Int) (wh : Int) (w : World) (hr : IsRow .i64 w a len cap zs) (w0 : 0 ≤ wh) (w255 : wh ≤ 255) (h : HasClasses w) :
    Calls Tryd.prog 8 #[.slice a len cap, .int .u8 wh] w fun e w' => e = .returned (.bool true) ∧ Below w.heap.size w w' := by
  have hl : len ≤ 9223372036854775807 := by
    rcases hr with ⟨_, h, _⟩ | ⟨_, _, h1, h2, _⟩
    · omega
    · unfold maxLen at h2; omega
  have H := Lib.hid h
  have HR := Lib.hid hr
  clear h hr
  by_cases h4 : len ≤ 400
  · have t1 : decide ((len : Int) ≤ 400) = true := decide_eq_true (by omega)
    go_enter Tryd.func8, Tryd.ntmps8
    go_wp2_with fail
    refine (few_any _ _ _ _ hl).mono ?_; rintro e w' ⟨rfl, rfl⟩
    go_wp2_with fail
    refine (newg_any _ _ _ _).mono ?_; rintro e w1 ⟨rfl, g1⟩
    have hbw := g1.lt
    obtain ⟨bd, hbd⟩ : ∃ b, w.heap.size = b := ⟨_, rfl⟩
    have HB := Lib.hid hbd
    rw [hbd] at hbw g1 ⊢
    clear hbd
    go_wp2_with fail
    refine (network_is (nodes := 6) (devices := 9) g1 HR.out (by decide) (by decide) (by decide) (by decide)).mono ?_
    rintro e W2 ⟨vn, vd, ns, ds, rfl, g2, rn, rd, gn, gd, n1, n2, d1, d2⟩
    obtain ⟨bs, hbs⟩ : ∃ b, w1.heap.size = b := ⟨_, rfl⟩
    rw [hbs] at rn rd hbw
    have CH := Lib.hid (good_chk (by omega) (by omega) gn gd)
    have hfit := good_fit (by omega) gd
    have hszn : ∀ x ∈ ns, x.nm.size ≤ maxLen := by
      intro x hx
      obtain ⟨i, hi, rfl⟩ := List.mem_iff_getElem.1 hx
      rw [(gn i hi).1]; show 3 ≤ maxLen; decide
    obtain ⟨N, hN⟩ : ∃ N, ns.length = N := ⟨_, rfl⟩
    obtain ⟨M, hM⟩ : ∃ M, ds.length = M := ⟨_, rfl⟩
    obtain ⟨rb, cn, hvn, rbb⟩ : ∃ rb cn, vn = .slice (some ⟨rb, 0, none⟩) N cn ∧ bs ≤ rb := by
      rcases rn.shape encNd_len with ⟨_, e⟩ | ⟨g, cap, e, q1, _⟩
      · rw [e] at n1; exact absurd n1 (by decide)
      · exact ⟨g, cap, by rw [e, hN], q1⟩
    obtain ⟨sb, cd, hvd, sbb⟩ : ∃ sb cd, vd = .slice (some ⟨sb, 0, none⟩) M cd ∧ bs ≤ sb := by
      rcases rd.shape encDv_len with ⟨_, e⟩ | ⟨g, cap, e, q1, _⟩
      · rw [e] at d1; exact absurd d1 (by decide)
      · exact ⟨g, cap, by rw [e, hM], q1⟩
    subst hvn hvd
    have HN := Lib.hid hN
    have HM := Lib.hid hM
    have FIT := Lib.hid hfit
    have SZN := Lib.hid hszn
    rw [hN] at n1 n2
    rw [hM] at d1 d2
    have hb2 := g2.lt
    have hmw := g2.below.size
    have NT := Lib.hid (NtAt.new W2 (.slice (some ⟨rb, 0, none⟩) N cn) (.slice (some ⟨sb, 0, none⟩) M cd) 26)
    have G3 := Lib.hid (g2.alloc (.cells #[.slice (some ⟨rb, 0, none⟩) N cn, .slice (some ⟨sb, 0, none⟩) M cd] 26))
    have RN3 := Lib.hid (rn.alloc (.cells #[.slice (some ⟨rb, 0, none⟩) N cn, .slice (some ⟨sb, 0, none⟩) M cd] 26))
    have RD3 := Lib.hid (rd.alloc (.cells #[.slice (some ⟨rb, 0, none⟩) N cn, .slice (some ⟨sb, 0, none⟩) M cd] 26))
    have rlt : rb < W2.heap.size := (World.ownsRow.lt rn rb rfl).2
    have slt : sb < W2.heap.size := (World.ownsRow.lt rd sb rfl).2
    have rsne : rb ≠ sb := fun e => own_type rn rd (by decide) rb rfl (by rw [e]; rfl)
    clear rn rd gn gd hN hM g1 g2 hfit hszn
    have hmk := make_flags M (by omega)
    obtain ⟨g, hg⟩ : ∃ g, W2.heap.size = g := ⟨_, rfl⟩
    rw [hg] at NT hb2 rlt slt
    obtain ⟨W3, hW3⟩ : ∃ W3, W2.alloc (.cells #[.slice (some ⟨rb, 0, none⟩) N cn, .slice (some ⟨sb, 0, none⟩) M cd] 26) = W3 := ⟨_, rfl⟩
    have hs3 : W3.heap.size = g + 1 := by rw [← hW3, ← hg]; simp
    rw [hW3] at NT G3 RN3 RD3
    obtain ⟨k1, k2, -⟩ := NT.out
    have gr0 := gb_refl W3 (some bd)
    have gm1 := G3.out
    have hgb : g ≠ bd := by omega
    go_wp2_with fail
    clear hW3 hg
    go_region_held3 (fun w' => w'.cell? ⟨g, 0, none⟩ = some (.slice (some ⟨rb, 0, none⟩) N cn) ∧ w'.cell? ⟨g, 1, none⟩ = some (.slice (some ⟨sb, 0, none⟩) M cd) ∧ Game w w' bd a len cap ∧ W3.grownBy w' (some bd))
      (first | exact two_drew ⟨k1, k2, gm1, gr0⟩ | exact ⟨k1, k2, gm1, gr0⟩ | exact two_drew (by assumption) | exact two_keep (by assumption) hgb (by assumption) (by assumption) | exact two_drew (two_keep (by assumption) hgb (by assumption) (by assumption)) | go_keep)
      (first
        | (go_at_call 22; refine ((two_game (by assumption)).1.next HR.out _ (by omega)).mono ?_; rintro e w7 ⟨r1, rfl, r10, r11, gm, gb⟩))
    rename_i fr fr0 fr1 fgm fgb hS
    have S7 := two_game hS
    have GM := Lib.hid S7.1
    have RN7 := Lib.hid (RN3.out.grown S7.2 (fun k hk => by cases hk; omega))
    have RD7 := Lib.hid (RD3.out.grown S7.2 (fun k hk => by cases hk; omega))
    have hk1 := hS.1
    have hk2 := hS.2.1
    have hsz7 : g + 1 ≤ w7.heap.size := by have := S7.2.size; omega
    obtain ⟨v, rfl⟩ : ∃ k : Nat, fr = k := ⟨fr.toNat, by omega⟩
    obtain ⟨i, rfl⟩ : ∃ k : Nat, r1 = k := ⟨r1.toNat, by omega⟩
    have hv : v < N := by omega
    have hi : i < M := by omega
    have hvx : v < ns.length := by rw [HN.out]; exact hv
    have hix : i < ds.length := by rw [HM.out]; exact hi
    obtain ⟨fz1, cz1⟩ : (∀ j, w7.frozen? ⟨rb, j, none⟩ = false) ∧ CellsAt encNd 3 w7 rb 0 ns := by
      rcases RN7.out.shape encNd_len with ⟨e, _⟩ | ⟨g', cap', e, _, _, _, _, q5, q6⟩
      · cases e
      · injection e with e1 e2 e3
        injection e1 with e1
        injection e1 with e1
        subst e1
        exact ⟨q6, q5⟩
    obtain ⟨fz2, cz2⟩ : (∀ j, w7.frozen? ⟨sb, j, none⟩ = false) ∧ CellsAt encDv 5 w7 sb 0 ds := by
      rcases RD7.out.shape encDv_len with ⟨e, _⟩ | ⟨g', cap', e, _, _, _, _, q5, q6⟩
      · cases e
      · injection e with e1 e2 e3
        injection e1 with e1
        injection e1 with e1
        subst e1
        exact ⟨q6, q5⟩
    obtain ⟨x0, x1, x2⟩ := cells_nd cz1 v hvx
    obtain ⟨y0, y1, y2, y3, y4⟩ := cells_dv cz2 i hix
    rw [Nat.zero_add] at x0 x1 x2 y0 y1 y2 y3 y4
    have NT7 : Hid (NtAt w7 g (.slice (some ⟨rb, 0, none⟩) N cn) (.slice (some ⟨sb, 0, none⟩) M cd)) := ⟨hk1, hk2, by omega⟩
    have FX := Lib.hid (fun (E : Int) (W : World) (nx : Nd) (hw : W = w7.setCell ⟨rb, v * 3 + E.toNat, none⟩ .nilFunc) => hw)
    have SETN : Hid (∀ (f : Nat) (u : Value) (nx : Nd), f < 3 → encNd nx = (encNd ns[v]).set f u → nx.nm.size ≤ maxLen → ∀ E, chk (ns.set v nx) ds = E → Fault w (w7.setCell ⟨rb, v * 3 + f, none⟩ u) g (some ⟨rb, 0, none⟩) (some ⟨sb, 0, none⟩) N cn M cd E) := fun f u nx hf he hsz E hE => by
      have st := AggsAt.set HN.out RN7.out encNd_len v hvx f hf nx u he
      have kd : AggsAt 54 5 encDv (w7.setCell ⟨rb, v * 3 + f, none⟩ u) bs (.slice (some ⟨sb, 0, none⟩) M cd) ds := World.ownsRow.kept RD7.out st.2 (.inr (fun e => rsne (by simpa [Value.ownBlock] using e.symm)))
      exact ⟨⟨st.2.cell NT7.out.1 (by simp; omega), st.2.cell NT7.out.2.1 (by simp; omega), by have := st.2.size; have := NT7.out.2.2; omega⟩, (GM.out.grown st.2 (by simp; omega) (fun k hk => by cases hk; have := HB.out; omega)).below, ns.set v nx, ds,
        net_of_rows st.1 kd (by rw [List.length_set]; exact HN.out) HM.out (fun x hx => by rcases mem_set hx with hx | rfl; exact SZN.out x hx; exact hsz) FIT.out, hE⟩
    have SETD : Hid (∀ (f : Nat) (u : Value) (nx : Dv), f < 5 → encDv nx = (encDv ds[i]).set f u → Fits nx → ∀ E, chk ns (ds.set i nx) = E → Fault w (w7.setCell ⟨sb, i * 5 + f, none⟩ u) g (some ⟨rb, 0, none⟩) (some ⟨sb, 0, none⟩) N cn M cd E) := fun f u nx hf he hsz E hE => by
      have st := AggsAt.set HM.out RD7.out encDv_len i hix f hf nx u he
      have kd : AggsAt 56 3 encNd (w7.setCell ⟨sb, i * 5 + f, none⟩ u) bs (.slice (some ⟨rb, 0, none⟩) N cn) ns := World.ownsRow.kept RN7.out st.2 (.inr (fun e => rsne (by simpa [Value.ownBlock] using e)))
      exact ⟨⟨st.2.cell NT7.out.1 (by simp; omega), st.2.cell NT7.out.2.1 (by simp; omega), by have := st.2.size; have := NT7.out.2.2; omega⟩, (GM.out.grown st.2 (by simp; omega) (fun k hk => by cases hk; have := HB.out; omega)).below, ns, ds.set i nx,
        net_of_rows kd st.1 HN.out (by rw [List.length_set]; exact HM.out) SZN.out (fun x hx => by rcases mem_set hx with hx | rfl; exact FIT.out x hx; exact hsz), hE⟩
    have FI := Lib.hid (FIT.out ds[i] (List.getElem_mem hix))
    have SI := Lib.hid (SZN.out ns[v] (List.getElem_mem hvx))
    obtain ⟨zn, hzn⟩ : ∃ z, ns[v].nm = z := ⟨_, rfl⟩
    obtain ⟨za, hza⟩ : ∃ z, ds[i].a = z := ⟨_, rfl⟩
    rw [hzn] at x0
    rw [hza] at y2
    have HZN := Lib.hid hzn
    have HZA := Lib.hid hza
    clear hS S7 fgm fgb gm gb fr0 fr1 r10 r11 k1 k2 gr0 gm1 cz1 cz2 FX hzn hza RN7 RD7 NT7
    have f1 := fz1
    have f2 := fz2
    rcases (show wh % 9 = 0 ∨ wh % 9 = 1 ∨ wh % 9 = 2 ∨ wh % 9 = 3 ∨ wh % 9 = 4 ∨ wh % 9 = 5 ∨ wh % 9 = 6 ∨ wh % 9 = 7 ∨ wh % 9 = 8 by omega) with hm | hm | hm | hm | hm | hm | hm | hm | hm
    · have FA := Lib.hid (SETN.out 0 (.string ⟨#[57]⟩) ⟨⟨#[57]⟩, ns[v].cu, ns[v].co⟩ (by decide) rfl (by show 1 ≤ maxLen; decide) 3 (arm0 CH.out v hvx))
      have fz := fz1 (v * 3)
      obtain ⟨W8, hW8⟩ : ∃ W, w7.setCell ⟨rb, v * 3, none⟩ (.string ⟨#[57]⟩) = W := ⟨_, rfl⟩
      first | rw [hW8] at FA | (rw [Nat.add_zero, hW8] at FA)
      clear f1 f2 fz1 fz2
      go_wp2_with fail
      skip
      obtain ⟨l1, l2, l3⟩ := FA.out.nt
      have bb := Below.refl W8.heap.size W8
      have HWX := Lib.hid (fun X (b : Below W8.heap.size W8 X) => H.out.below (FA.out.bel.trans (b.mono FA.out.bel.size)))
      obtain ⟨ns', ds', ni8, ch8⟩ := FA.out.net
      have NIX := Lib.hid (fun X (b : Below W8.heap.size W8 X) => ni8.below b)
      have CE := Lib.hid ch8
      clear hW8 x0 x1 x2 y0 y1 y2 y3 y4 fz hk1 hk2 ni8 ch8
      go_wp2_with fail
      go_region_held3 (fun w' => w'.cell? ⟨g, 0, none⟩ = some (.slice (some ⟨rb, 0, none⟩) N cn) ∧ w'.cell? ⟨g, 1, none⟩ = some (.slice (some ⟨sb, 0, none⟩) M cd) ∧ Below W8.heap.size W8 w')
        (first
          | exact err_all l1 l2 l3 (Below.trans (by repeat (first | exact Below.refl _ _ | apply Below.drew | apply below_drewN | refine Below.alloc ?_ (by simp) _)) (Below.mono b9 (by simp)))
          | exact err_all l1 l2 l3 (by repeat (first | exact Below.refl _ _ | apply Below.drew | apply below_drewN | refine Below.alloc ?_ (by simp) _))
          | go_keep)
        (first
          | (go_at_call 28; refine (way_err (some ⟨rb, 0, none⟩) (some ⟨sb, 0, none⟩) N cn M cd _ ns' ds' 0 0 3 _ (HWX.out _ (by repeat (first | exact Below.refl _ _ | apply Below.drew | apply below_drewN | refine Below.alloc ?_ (by simp) _))) (NIX.out _ (by repeat (first | exact Below.refl _ _ | apply Below.drew | apply below_drewN | refine Below.alloc ?_ (by simp) _))) CE.out (by decide)).mono ?_; rintro e w9 ⟨rfl, b9⟩))
      rename_i hS9
      have B9 := Lib.hid hS9.2.2
      obtain ⟨m1, m2, -⟩ := hS9
      have NT9 := Lib.hid (FA.out.nt.below B9.out l3)
      clear b9 l1 l2
      go_wp2_with fail
      refine (check_is (some ⟨rb, 0, none⟩) (some ⟨sb, 0, none⟩) N cn M cd ns' ds' 3 _ (HWX.out _ B9.out) (NIX.out _ B9.out) CE.out).mono ?_; rintro e w10 ⟨rfl, b10⟩
      have B10 := Lib.hid (B9.out.trans (b10.mono B9.out.size))
      obtain ⟨o1, o2, -⟩ := NT9.out.below b10 NT9.out.2.2
      clear b10 m1 m2
      go_wp2_with fail
      refine (node_is (some ⟨rb, 0, none⟩) (some ⟨sb, 0, none⟩) N cn M cd ns' ds' ⟨#[78, 48, 49]⟩ (-1) _ (HWX.out _ B10.out) (NIX.out _ B10.out) (by rw [CE.out, if_neg (by decide)])).mono ?_; rintro e w11 ⟨rfl, b11⟩
      have B11 := Lib.hid (B10.out.trans (b11.mono B10.out.size))
      have NT11 := Lib.hid (FA.out.nt.below B11.out l3)
      obtain ⟨p1, p2, -⟩ := NT11.out
      clear b11 o1 o2
      go_wp2_with fail
      refine (at_is (some ⟨rb, 0, none⟩) (some ⟨sb, 0, none⟩) N cn M cd ns' ds' 0 _ (HWX.out _ B11.out) (NIX.out _ B11.out) (by decide) (by decide)).mono ?_; rintro e w12 ⟨yv, rfl, nu, b12⟩
      have eR : atR ns' ds' 0 = [] := by unfold atR; rw [if_neg (fun h => by have := h.1; rw [CE.out] at this; exact absurd this (by decide))]
      rw [eR] at nu
      obtain ⟨ya, yc, rfl, -⟩ := AggsAt.length nu encN_len
      have B12 := Lib.hid (B11.out.trans (b12.mono B11.out.size))
      clear nu b12 p1 p2 eR
      go_wp2_with fail
      refine (awake_is _ (HWX.out _ B12.out)).mono ?_; rintro e w13 ⟨rfl, b13⟩
      have BZ := Lib.hid (FA.out.bel.trans ((B12.out.trans (b13.mono B12.out.size)).mono FA.out.bel.size))
      clear b13
      go_wp2
      go_ret
      exact ⟨rfl, BZ.out⟩
    · have FA := Lib.hid (SETD.out 0 (.string ⟨#[]⟩) ⟨⟨#[]⟩, ds[i].ki, ds[i].a, ds[i].b, ds[i].co⟩ (by decide) rfl ⟨FI.out.1, FI.out.2.1, FI.out.2.2.1, FI.out.2.2.2.1, by show 0 ≤ maxLen; decide⟩ 3 (arm1 CH.out i hix))
      have fz := fz2 (i * 5)
      obtain ⟨W8, hW8⟩ : ∃ W, w7.setCell ⟨sb, i * 5, none⟩ (.string ⟨#[]⟩) = W := ⟨_, rfl⟩
      first | rw [hW8] at FA | (rw [Nat.add_zero, hW8] at FA)
      clear f1 f2 fz1 fz2
      go_wp2_with fail
      skip
      obtain ⟨l1, l2, l3⟩ := FA.out.nt
      have bb := Below.refl W8.heap.size W8
      have HWX := Lib.hid (fun X (b : Below W8.heap.size W8 X) => H.out.below (FA.out.bel.trans (b.mono FA.out.bel.size)))
      obtain ⟨ns', ds', ni8, ch8⟩ := FA.out.net
      have NIX := Lib.hid (fun X (b : Below W8.heap.size W8 X) => ni8.below b)
      have CE := Lib.hid ch8
      clear hW8 x0 x1 x2 y0 y1 y2 y3 y4 fz hk1 hk2 ni8 ch8
      go_wp2_with fail
      go_region_held3 (fun w' => w'.cell? ⟨g, 0, none⟩ = some (.slice (some ⟨rb, 0, none⟩) N cn) ∧ w'.cell? ⟨g, 1, none⟩ = some (.slice (some ⟨sb, 0, none⟩) M cd) ∧ Below W8.heap.size W8 w')
        (first
          | exact err_all l1 l2 l3 (Below.trans (by repeat (first | exact Below.refl _ _ | apply Below.drew | apply below_drewN | refine Below.alloc ?_ (by simp) _)) (Below.mono b9 (by simp)))
          | exact err_all l1 l2 l3 (by repeat (first | exact Below.refl _ _ | apply Below.drew | apply below_drewN | refine Below.alloc ?_ (by simp) _))
          | go_keep)
        (first
          | (go_at_call 28; refine (way_err (some ⟨rb, 0, none⟩) (some ⟨sb, 0, none⟩) N cn M cd _ ns' ds' 0 0 3 _ (HWX.out _ (by repeat (first | exact Below.refl _ _ | apply Below.drew | apply below_drewN | refine Below.alloc ?_ (by simp) _))) (NIX.out _ (by repeat (first | exact Below.refl _ _ | apply Below.drew | apply below_drewN | refine Below.alloc ?_ (by simp) _))) CE.out (by decide)).mono ?_; rintro e w9 ⟨rfl, b9⟩))
      rename_i hS9
      have B9 := Lib.hid hS9.2.2
      obtain ⟨m1, m2, -⟩ := hS9
      have NT9 := Lib.hid (FA.out.nt.below B9.out l3)
      clear b9 l1 l2
      go_wp2_with fail
      refine (check_is (some ⟨rb, 0, none⟩) (some ⟨sb, 0, none⟩) N cn M cd ns' ds' 3 _ (HWX.out _ B9.out) (NIX.out _ B9.out) CE.out).mono ?_; rintro e w10 ⟨rfl, b10⟩
      have B10 := Lib.hid (B9.out.trans (b10.mono B9.out.size))
      obtain ⟨o1, o2, -⟩ := NT9.out.below b10 NT9.out.2.2
      clear b10 m1 m2
      go_wp2_with fail
      refine (node_is (some ⟨rb, 0, none⟩) (some ⟨sb, 0, none⟩) N cn M cd ns' ds' ⟨#[78, 48, 49]⟩ (-1) _ (HWX.out _ B10.out) (NIX.out _ B10.out) (by rw [CE.out, if_neg (by decide)])).mono ?_; rintro e w11 ⟨rfl, b11⟩
      have B11 := Lib.hid (B10.out.trans (b11.mono B10.out.size))
      have NT11 := Lib.hid (FA.out.nt.below B11.out l3)
      obtain ⟨p1, p2, -⟩ := NT11.out
      clear b11 o1 o2
      go_wp2_with fail
      refine (at_is (some ⟨rb, 0, none⟩) (some ⟨sb, 0, none⟩) N cn M cd ns' ds' 0 _ (HWX.out _ B11.out) (NIX.out _ B11.out) (by decide) (by decide)).mono ?_; rintro e w12 ⟨yv, rfl, nu, b12⟩
      have eR : atR ns' ds' 0 = [] := by unfold atR; rw [if_neg (fun h => by have := h.1; rw [CE.out] at this; exact absurd this (by decide))]
      rw [eR] at nu
      obtain ⟨ya, yc, rfl, -⟩ := AggsAt.length nu encN_len
      have B12 := Lib.hid (B11.out.trans (b12.mono B11.out.size))
      clear nu b12 p1 p2 eR
      go_wp2_with fail
      refine (awake_is _ (HWX.out _ B12.out)).mono ?_; rintro e w13 ⟨rfl, b13⟩
      have BZ := Lib.hid (FA.out.bel.trans ((B12.out.trans (b13.mono B12.out.size)).mono FA.out.bel.size))
      clear b13
      go_wp2
      go_ret
      exact ⟨rfl, BZ.out⟩
    · have FA := Lib.hid (SETD.out 0 (.string zn) ⟨ns[v].nm, ds[i].ki, ds[i].a, ds[i].b, ds[i].co⟩ (by decide) (by rw [← HZN.out]; rfl) ⟨FI.out.1, FI.out.2.1, FI.out.2.2.1, FI.out.2.2.2.1, SI.out⟩ 4 (arm2 CH.out v i hvx hix))
      have fz := fz2 (i * 5)
      obtain ⟨W8, hW8⟩ : ∃ W, w7.setCell ⟨sb, i * 5, none⟩ (.string zn) = W := ⟨_, rfl⟩
      first | rw [hW8] at FA | (rw [Nat.add_zero, hW8] at FA)
      clear f1 f2 fz1 fz2
      go_wp2_with fail
      go_region
      all_goals go_wp2_with fail
      obtain ⟨l1, l2, l3⟩ := FA.out.nt
      have bb := Below.refl W8.heap.size W8
      have HWX := Lib.hid (fun X (b : Below W8.heap.size W8 X) => H.out.below (FA.out.bel.trans (b.mono FA.out.bel.size)))
      obtain ⟨ns', ds', ni8, ch8⟩ := FA.out.net
      have NIX := Lib.hid (fun X (b : Below W8.heap.size W8 X) => ni8.below b)
      have CE := Lib.hid ch8
      clear hW8 x0 x1 x2 y0 y1 y2 y3 y4 fz hk1 hk2 ni8 ch8
      go_wp2_with fail
      go_region_held3 (fun w' => w'.cell? ⟨g, 0, none⟩ = some (.slice (some ⟨rb, 0, none⟩) N cn) ∧ w'.cell? ⟨g, 1, none⟩ = some (.slice (some ⟨sb, 0, none⟩) M cd) ∧ Below W8.heap.size W8 w')
        (first
          | exact err_all l1 l2 l3 (Below.trans (by repeat (first | exact Below.refl _ _ | apply Below.drew | apply below_drewN | refine Below.alloc ?_ (by simp) _)) (Below.mono b9 (by simp)))
          | exact err_all l1 l2 l3 (by repeat (first | exact Below.refl _ _ | apply Below.drew | apply below_drewN | refine Below.alloc ?_ (by simp) _))
          | go_keep)
        (first
          | (go_at_call 28; refine (way_err (some ⟨rb, 0, none⟩) (some ⟨sb, 0, none⟩) N cn M cd _ ns' ds' 0 0 4 _ (HWX.out _ (by repeat (first | exact Below.refl _ _ | apply Below.drew | apply below_drewN | refine Below.alloc ?_ (by simp) _))) (NIX.out _ (by repeat (first | exact Below.refl _ _ | apply Below.drew | apply below_drewN | refine Below.alloc ?_ (by simp) _))) CE.out (by decide)).mono ?_; rintro e w9 ⟨rfl, b9⟩))
      rename_i hS9
      have B9 := Lib.hid hS9.2.2
      obtain ⟨m1, m2, -⟩ := hS9
      have NT9 := Lib.hid (FA.out.nt.below B9.out l3)
      clear b9 l1 l2
      go_wp2_with fail
      refine (check_is (some ⟨rb, 0, none⟩) (some ⟨sb, 0, none⟩) N cn M cd ns' ds' 4 _ (HWX.out _ B9.out) (NIX.out _ B9.out) CE.out).mono ?_; rintro e w10 ⟨rfl, b10⟩
      have B10 := Lib.hid (B9.out.trans (b10.mono B9.out.size))
      obtain ⟨o1, o2, -⟩ := NT9.out.below b10 NT9.out.2.2
      clear b10 m1 m2
      go_wp2_with fail
      refine (node_is (some ⟨rb, 0, none⟩) (some ⟨sb, 0, none⟩) N cn M cd ns' ds' ⟨#[78, 48, 49]⟩ (-1) _ (HWX.out _ B10.out) (NIX.out _ B10.out) (by rw [CE.out, if_neg (by decide)])).mono ?_; rintro e w11 ⟨rfl, b11⟩
      have B11 := Lib.hid (B10.out.trans (b11.mono B10.out.size))
      have NT11 := Lib.hid (FA.out.nt.below B11.out l3)
      obtain ⟨p1, p2, -⟩ := NT11.out
      clear b11 o1 o2
      go_wp2_with fail
      refine (at_is (some ⟨rb, 0, none⟩) (some ⟨sb, 0, none⟩) N cn M cd ns' ds' 0 _ (HWX.out _ B11.out) (NIX.out _ B11.out) (by decide) (by decide)).mono ?_; rintro e w12 ⟨yv, rfl, nu, b12⟩
      have eR : atR ns' ds' 0 = [] := by unfold atR; rw [if_neg (fun h => by have := h.1; rw [CE.out] at this; exact absurd this (by decide))]
      rw [eR] at nu
      obtain ⟨ya, yc, rfl, -⟩ := AggsAt.length nu encN_len
      have B12 := Lib.hid (B11.out.trans (b12.mono B11.out.size))
      clear nu b12 p1 p2 eR
      go_wp2_with fail
      refine (awake_is _ (HWX.out _ B12.out)).mono ?_; rintro e w13 ⟨rfl, b13⟩
      have BZ := Lib.hid (FA.out.bel.trans ((B12.out.trans (b13.mono B12.out.size)).mono FA.out.bel.size))
      clear b13
      go_wp2
      go_ret
      exact ⟨rfl, BZ.out⟩
    · have FA := Lib.hid (SETN.out 1 (.int .i64 (-1)) ⟨ns[v].nm, -1, ns[v].co⟩ (by decide) rfl SI.out 5 (arm3 CH.out v hvx))
      have fz := fz1 (v * 3 + 1)
      obtain ⟨W8, hW8⟩ : ∃ W, w7.setCell ⟨rb, v * 3 + 1, none⟩ (.int .i64 (-1)) = W := ⟨_, rfl⟩
      first | rw [hW8] at FA | (rw [Nat.add_zero, hW8] at FA)
      clear f1 f2 fz1 fz2
      go_wp2_with fail
      skip
      obtain ⟨l1, l2, l3⟩ := FA.out.nt
      have bb := Below.refl W8.heap.size W8
      have HWX := Lib.hid (fun X (b : Below W8.heap.size W8 X) => H.out.below (FA.out.bel.trans (b.mono FA.out.bel.size)))
      obtain ⟨ns', ds', ni8, ch8⟩ := FA.out.net
      have NIX := Lib.hid (fun X (b : Below W8.heap.size W8 X) => ni8.below b)
      have CE := Lib.hid ch8
      clear hW8 x0 x1 x2 y0 y1 y2 y3 y4 fz hk1 hk2 ni8 ch8
      go_wp2_with fail
      go_region_held3 (fun w' => w'.cell? ⟨g, 0, none⟩ = some (.slice (some ⟨rb, 0, none⟩) N cn) ∧ w'.cell? ⟨g, 1, none⟩ = some (.slice (some ⟨sb, 0, none⟩) M cd) ∧ Below W8.heap.size W8 w')
        (first
          | exact err_all l1 l2 l3 (Below.trans (by repeat (first | exact Below.refl _ _ | apply Below.drew | apply below_drewN | refine Below.alloc ?_ (by simp) _)) (Below.mono b9 (by simp)))
          | exact err_all l1 l2 l3 (by repeat (first | exact Below.refl _ _ | apply Below.drew | apply below_drewN | refine Below.alloc ?_ (by simp) _))
          | go_keep)
        (first
          | (go_at_call 28; refine (way_err (some ⟨rb, 0, none⟩) (some ⟨sb, 0, none⟩) N cn M cd _ ns' ds' 0 0 5 _ (HWX.out _ (by repeat (first | exact Below.refl _ _ | apply Below.drew | apply below_drewN | refine Below.alloc ?_ (by simp) _))) (NIX.out _ (by repeat (first | exact Below.refl _ _ | apply Below.drew | apply below_drewN | refine Below.alloc ?_ (by simp) _))) CE.out (by decide)).mono ?_; rintro e w9 ⟨rfl, b9⟩))
      rename_i hS9
      have B9 := Lib.hid hS9.2.2
      obtain ⟨m1, m2, -⟩ := hS9
      have NT9 := Lib.hid (FA.out.nt.below B9.out l3)
      clear b9 l1 l2
      go_wp2_with fail
      refine (check_is (some ⟨rb, 0, none⟩) (some ⟨sb, 0, none⟩) N cn M cd ns' ds' 5 _ (HWX.out _ B9.out) (NIX.out _ B9.out) CE.out).mono ?_; rintro e w10 ⟨rfl, b10⟩
      have B10 := Lib.hid (B9.out.trans (b10.mono B9.out.size))
      obtain ⟨o1, o2, -⟩ := NT9.out.below b10 NT9.out.2.2
      clear b10 m1 m2
      go_wp2_with fail
      refine (node_is (some ⟨rb, 0, none⟩) (some ⟨sb, 0, none⟩) N cn M cd ns' ds' ⟨#[78, 48, 49]⟩ (-1) _ (HWX.out _ B10.out) (NIX.out _ B10.out) (by rw [CE.out, if_neg (by decide)])).mono ?_; rintro e w11 ⟨rfl, b11⟩
      have B11 := Lib.hid (B10.out.trans (b11.mono B10.out.size))
      have NT11 := Lib.hid (FA.out.nt.below B11.out l3)
      obtain ⟨p1, p2, -⟩ := NT11.out
      clear b11 o1 o2
      go_wp2_with fail
      refine (at_is (some ⟨rb, 0, none⟩) (some ⟨sb, 0, none⟩) N cn M cd ns' ds' 0 _ (HWX.out _ B11.out) (NIX.out _ B11.out) (by decide) (by decide)).mono ?_; rintro e w12 ⟨yv, rfl, nu, b12⟩
      have eR : atR ns' ds' 0 = [] := by unfold atR; rw [if_neg (fun h => by have := h.1; rw [CE.out] at this; exact absurd this (by decide))]
      rw [eR] at nu
      obtain ⟨ya, yc, rfl, -⟩ := AggsAt.length nu encN_len
      have B12 := Lib.hid (B11.out.trans (b12.mono B11.out.size))
      clear nu b12 p1 p2 eR
      go_wp2_with fail
      refine (awake_is _ (HWX.out _ B12.out)).mono ?_; rintro e w13 ⟨rfl, b13⟩
      have BZ := Lib.hid (FA.out.bel.trans ((B12.out.trans (b13.mono B12.out.size)).mono FA.out.bel.size))
      clear b13
      go_wp2
      go_ret
      exact ⟨rfl, BZ.out⟩
    · have FA := Lib.hid (SETN.out 2 (.int .i64 8) ⟨ns[v].nm, ns[v].cu, 8⟩ (by decide) rfl SI.out 5 (arm4 CH.out v hvx))
      have fz := fz1 (v * 3 + 2)
      obtain ⟨W8, hW8⟩ : ∃ W, w7.setCell ⟨rb, v * 3 + 2, none⟩ (.int .i64 8) = W := ⟨_, rfl⟩
      first | rw [hW8] at FA | (rw [Nat.add_zero, hW8] at FA)
      clear f1 f2 fz1 fz2
      go_wp2_with fail
      skip
      obtain ⟨l1, l2, l3⟩ := FA.out.nt
      have bb := Below.refl W8.heap.size W8
      have HWX := Lib.hid (fun X (b : Below W8.heap.size W8 X) => H.out.below (FA.out.bel.trans (b.mono FA.out.bel.size)))
      obtain ⟨ns', ds', ni8, ch8⟩ := FA.out.net
      have NIX := Lib.hid (fun X (b : Below W8.heap.size W8 X) => ni8.below b)
      have CE := Lib.hid ch8
      clear hW8 x0 x1 x2 y0 y1 y2 y3 y4 fz hk1 hk2 ni8 ch8
      go_wp2_with fail
      go_region_held3 (fun w' => w'.cell? ⟨g, 0, none⟩ = some (.slice (some ⟨rb, 0, none⟩) N cn) ∧ w'.cell? ⟨g, 1, none⟩ = some (.slice (some ⟨sb, 0, none⟩) M cd) ∧ Below W8.heap.size W8 w')
        (first
          | exact err_all l1 l2 l3 (Below.trans (by repeat (first | exact Below.refl _ _ | apply Below.drew | apply below_drewN | refine Below.alloc ?_ (by simp) _)) (Below.mono b9 (by simp)))
          | exact err_all l1 l2 l3 (by repeat (first | exact Below.refl _ _ | apply Below.drew | apply below_drewN | refine Below.alloc ?_ (by simp) _))
          | go_keep)
        (first
          | (go_at_call 28; refine (way_err (some ⟨rb, 0, none⟩) (some ⟨sb, 0, none⟩) N cn M cd _ ns' ds' 0 0 5 _ (HWX.out _ (by repeat (first | exact Below.refl _ _ | apply Below.drew | apply below_drewN | refine Below.alloc ?_ (by simp) _))) (NIX.out _ (by repeat (first | exact Below.refl _ _ | apply Below.drew | apply below_drewN | refine Below.alloc ?_ (by simp) _))) CE.out (by decide)).mono ?_; rintro e w9 ⟨rfl, b9⟩))
      rename_i hS9
      have B9 := Lib.hid hS9.2.2
      obtain ⟨m1, m2, -⟩ := hS9
      have NT9 := Lib.hid (FA.out.nt.below B9.out l3)
      clear b9 l1 l2
      go_wp2_with fail
      refine (check_is (some ⟨rb, 0, none⟩) (some ⟨sb, 0, none⟩) N cn M cd ns' ds' 5 _ (HWX.out _ B9.out) (NIX.out _ B9.out) CE.out).mono ?_; rintro e w10 ⟨rfl, b10⟩
      have B10 := Lib.hid (B9.out.trans (b10.mono B9.out.size))
      obtain ⟨o1, o2, -⟩ := NT9.out.below b10 NT9.out.2.2
      clear b10 m1 m2
      go_wp2_with fail
      refine (node_is (some ⟨rb, 0, none⟩) (some ⟨sb, 0, none⟩) N cn M cd ns' ds' ⟨#[78, 48, 49]⟩ (-1) _ (HWX.out _ B10.out) (NIX.out _ B10.out) (by rw [CE.out, if_neg (by decide)])).mono ?_; rintro e w11 ⟨rfl, b11⟩
      have B11 := Lib.hid (B10.out.trans (b11.mono B10.out.size))
      have NT11 := Lib.hid (FA.out.nt.below B11.out l3)
      obtain ⟨p1, p2, -⟩ := NT11.out
      clear b11 o1 o2
      go_wp2_with fail
      refine (at_is (some ⟨rb, 0, none⟩) (some ⟨sb, 0, none⟩) N cn M cd ns' ds' 0 _ (HWX.out _ B11.out) (NIX.out _ B11.out) (by decide) (by decide)).mono ?_; rintro e w12 ⟨yv, rfl, nu, b12⟩
      have eR : atR ns' ds' 0 = [] := by unfold atR; rw [if_neg (fun h => by have := h.1; rw [CE.out] at this; exact absurd this (by decide))]
      rw [eR] at nu
      obtain ⟨ya, yc, rfl, -⟩ := AggsAt.length nu encN_len
      have B12 := Lib.hid (B11.out.trans (b12.mono B11.out.size))
      clear nu b12 p1 p2 eR
      go_wp2_with fail
      refine (awake_is _ (HWX.out _ B12.out)).mono ?_; rintro e w13 ⟨rfl, b13⟩
      have BZ := Lib.hid (FA.out.bel.trans ((B12.out.trans (b13.mono B12.out.size)).mono FA.out.bel.size))
      clear b13
      go_wp2
      go_ret
      exact ⟨rfl, BZ.out⟩
    · have FA := Lib.hid (SETD.out 1 (.int .i64 7) ⟨ds[i].nm, 7, ds[i].a, ds[i].b, ds[i].co⟩ (by decide) rfl FI.out 6 (arm5 CH.out i hix))
      have fz := fz2 (i * 5 + 1)
      obtain ⟨W8, hW8⟩ : ∃ W, w7.setCell ⟨sb, i * 5 + 1, none⟩ (.int .i64 7) = W := ⟨_, rfl⟩
      first | rw [hW8] at FA | (rw [Nat.add_zero, hW8] at FA)
      clear f1 f2 fz1 fz2
      go_wp2_with fail
      skip
      obtain ⟨l1, l2, l3⟩ := FA.out.nt
      have bb := Below.refl W8.heap.size W8
      have HWX := Lib.hid (fun X (b : Below W8.heap.size W8 X) => H.out.below (FA.out.bel.trans (b.mono FA.out.bel.size)))
      obtain ⟨ns', ds', ni8, ch8⟩ := FA.out.net
      have NIX := Lib.hid (fun X (b : Below W8.heap.size W8 X) => ni8.below b)
      have CE := Lib.hid ch8
      clear hW8 x0 x1 x2 y0 y1 y2 y3 y4 fz hk1 hk2 ni8 ch8
      go_wp2_with fail
      go_region_held3 (fun w' => w'.cell? ⟨g, 0, none⟩ = some (.slice (some ⟨rb, 0, none⟩) N cn) ∧ w'.cell? ⟨g, 1, none⟩ = some (.slice (some ⟨sb, 0, none⟩) M cd) ∧ Below W8.heap.size W8 w')
        (first
          | exact err_all l1 l2 l3 (Below.trans (by repeat (first | exact Below.refl _ _ | apply Below.drew | apply below_drewN | refine Below.alloc ?_ (by simp) _)) (Below.mono b9 (by simp)))
          | exact err_all l1 l2 l3 (by repeat (first | exact Below.refl _ _ | apply Below.drew | apply below_drewN | refine Below.alloc ?_ (by simp) _))
          | go_keep)
        (first
          | (go_at_call 28; refine (way_err (some ⟨rb, 0, none⟩) (some ⟨sb, 0, none⟩) N cn M cd _ ns' ds' 0 0 6 _ (HWX.out _ (by repeat (first | exact Below.refl _ _ | apply Below.drew | apply below_drewN | refine Below.alloc ?_ (by simp) _))) (NIX.out _ (by repeat (first | exact Below.refl _ _ | apply Below.drew | apply below_drewN | refine Below.alloc ?_ (by simp) _))) CE.out (by decide)).mono ?_; rintro e w9 ⟨rfl, b9⟩))
      rename_i hS9
      have B9 := Lib.hid hS9.2.2
      obtain ⟨m1, m2, -⟩ := hS9
      have NT9 := Lib.hid (FA.out.nt.below B9.out l3)
      clear b9 l1 l2
      go_wp2_with fail
      refine (check_is (some ⟨rb, 0, none⟩) (some ⟨sb, 0, none⟩) N cn M cd ns' ds' 6 _ (HWX.out _ B9.out) (NIX.out _ B9.out) CE.out).mono ?_; rintro e w10 ⟨rfl, b10⟩
      have B10 := Lib.hid (B9.out.trans (b10.mono B9.out.size))
      obtain ⟨o1, o2, -⟩ := NT9.out.below b10 NT9.out.2.2
      clear b10 m1 m2
      go_wp2_with fail
      refine (node_is (some ⟨rb, 0, none⟩) (some ⟨sb, 0, none⟩) N cn M cd ns' ds' ⟨#[78, 48, 49]⟩ (-1) _ (HWX.out _ B10.out) (NIX.out _ B10.out) (by rw [CE.out, if_neg (by decide)])).mono ?_; rintro e w11 ⟨rfl, b11⟩
      have B11 := Lib.hid (B10.out.trans (b11.mono B10.out.size))
      have NT11 := Lib.hid (FA.out.nt.below B11.out l3)
      obtain ⟨p1, p2, -⟩ := NT11.out
      clear b11 o1 o2
      go_wp2_with fail
      refine (at_is (some ⟨rb, 0, none⟩) (some ⟨sb, 0, none⟩) N cn M cd ns' ds' 0 _ (HWX.out _ B11.out) (NIX.out _ B11.out) (by decide) (by decide)).mono ?_; rintro e w12 ⟨yv, rfl, nu, b12⟩
      have eR : atR ns' ds' 0 = [] := by unfold atR; rw [if_neg (fun h => by have := h.1; rw [CE.out] at this; exact absurd this (by decide))]
      rw [eR] at nu
      obtain ⟨ya, yc, rfl, -⟩ := AggsAt.length nu encN_len
      have B12 := Lib.hid (B11.out.trans (b12.mono B11.out.size))
      clear nu b12 p1 p2 eR
      go_wp2_with fail
      refine (awake_is _ (HWX.out _ B12.out)).mono ?_; rintro e w13 ⟨rfl, b13⟩
      have BZ := Lib.hid (FA.out.bel.trans ((B12.out.trans (b13.mono B12.out.size)).mono FA.out.bel.size))
      clear b13
      go_wp2
      go_ret
      exact ⟨rfl, BZ.out⟩
    · have FA := Lib.hid (SETD.out 2 (.int .i64 (N : Int)) ⟨ds[i].nm, ds[i].ki, ns.length, ds[i].b, ds[i].co⟩ (by decide) (by rw [HN.out]; rfl) ⟨by show _ ≤ ((ns.length : Nat) : Int); omega, by show ((ns.length : Nat) : Int) ≤ _; rw [HN.out]; omega, FI.out.2.2.1, FI.out.2.2.2.1, FI.out.2.2.2.2⟩ 7 (arm6 CH.out i hix))
      have fz := fz2 (i * 5 + 2)
      obtain ⟨W8, hW8⟩ : ∃ W, w7.setCell ⟨sb, i * 5 + 2, none⟩ (.int .i64 (N : Int)) = W := ⟨_, rfl⟩
      first | rw [hW8] at FA | (rw [Nat.add_zero, hW8] at FA)
      clear f1 f2 fz1 fz2
      go_wp2_with fail
      skip
      obtain ⟨l1, l2, l3⟩ := FA.out.nt
      have bb := Below.refl W8.heap.size W8
      have HWX := Lib.hid (fun X (b : Below W8.heap.size W8 X) => H.out.below (FA.out.bel.trans (b.mono FA.out.bel.size)))
      obtain ⟨ns', ds', ni8, ch8⟩ := FA.out.net
      have NIX := Lib.hid (fun X (b : Below W8.heap.size W8 X) => ni8.below b)
      have CE := Lib.hid ch8
      clear hW8 x0 x1 x2 y0 y1 y2 y3 y4 fz hk1 hk2 ni8 ch8
      go_wp2_with fail
      go_region_held3 (fun w' => w'.cell? ⟨g, 0, none⟩ = some (.slice (some ⟨rb, 0, none⟩) N cn) ∧ w'.cell? ⟨g, 1, none⟩ = some (.slice (some ⟨sb, 0, none⟩) M cd) ∧ Below W8.heap.size W8 w')
        (first
          | exact err_all l1 l2 l3 (Below.trans (by repeat (first | exact Below.refl _ _ | apply Below.drew | apply below_drewN | refine Below.alloc ?_ (by simp) _)) (Below.mono b9 (by simp)))
          | exact err_all l1 l2 l3 (by repeat (first | exact Below.refl _ _ | apply Below.drew | apply below_drewN | refine Below.alloc ?_ (by simp) _))
          | go_keep)
        (first
          | (go_at_call 28; refine (way_err (some ⟨rb, 0, none⟩) (some ⟨sb, 0, none⟩) N cn M cd _ ns' ds' 0 0 7 _ (HWX.out _ (by repeat (first | exact Below.refl _ _ | apply Below.drew | apply below_drewN | refine Below.alloc ?_ (by simp) _))) (NIX.out _ (by repeat (first | exact Below.refl _ _ | apply Below.drew | apply below_drewN | refine Below.alloc ?_ (by simp) _))) CE.out (by decide)).mono ?_; rintro e w9 ⟨rfl, b9⟩))
      rename_i hS9
      have B9 := Lib.hid hS9.2.2
      obtain ⟨m1, m2, -⟩ := hS9
      have NT9 := Lib.hid (FA.out.nt.below B9.out l3)
      clear b9 l1 l2
      go_wp2_with fail
      refine (check_is (some ⟨rb, 0, none⟩) (some ⟨sb, 0, none⟩) N cn M cd ns' ds' 7 _ (HWX.out _ B9.out) (NIX.out _ B9.out) CE.out).mono ?_; rintro e w10 ⟨rfl, b10⟩
      have B10 := Lib.hid (B9.out.trans (b10.mono B9.out.size))
      obtain ⟨o1, o2, -⟩ := NT9.out.below b10 NT9.out.2.2
      clear b10 m1 m2
      go_wp2_with fail
      refine (node_is (some ⟨rb, 0, none⟩) (some ⟨sb, 0, none⟩) N cn M cd ns' ds' ⟨#[78, 48, 49]⟩ (-1) _ (HWX.out _ B10.out) (NIX.out _ B10.out) (by rw [CE.out, if_neg (by decide)])).mono ?_; rintro e w11 ⟨rfl, b11⟩
      have B11 := Lib.hid (B10.out.trans (b11.mono B10.out.size))
      have NT11 := Lib.hid (FA.out.nt.below B11.out l3)
      obtain ⟨p1, p2, -⟩ := NT11.out
      clear b11 o1 o2
      go_wp2_with fail
      refine (at_is (some ⟨rb, 0, none⟩) (some ⟨sb, 0, none⟩) N cn M cd ns' ds' 0 _ (HWX.out _ B11.out) (NIX.out _ B11.out) (by decide) (by decide)).mono ?_; rintro e w12 ⟨yv, rfl, nu, b12⟩
      have eR : atR ns' ds' 0 = [] := by unfold atR; rw [if_neg (fun h => by have := h.1; rw [CE.out] at this; exact absurd this (by decide))]
      rw [eR] at nu
      obtain ⟨ya, yc, rfl, -⟩ := AggsAt.length nu encN_len
      have B12 := Lib.hid (B11.out.trans (b12.mono B11.out.size))
      clear nu b12 p1 p2 eR
      go_wp2_with fail
      refine (awake_is _ (HWX.out _ B12.out)).mono ?_; rintro e w13 ⟨rfl, b13⟩
      have BZ := Lib.hid (FA.out.bel.trans ((B12.out.trans (b13.mono B12.out.size)).mono FA.out.bel.size))
      clear b13
      go_wp2
      go_ret
      exact ⟨rfl, BZ.out⟩
    · have FA := Lib.hid (SETD.out 3 (.int .i64 za) ⟨ds[i].nm, ds[i].ki, ds[i].a, ds[i].a, ds[i].co⟩ (by decide) (by rw [← HZA.out]; rfl) ⟨FI.out.1, FI.out.2.1, FI.out.1, FI.out.2.1, FI.out.2.2.2.2⟩ 7 (arm7 CH.out i hix))
      have fz := fz2 (i * 5 + 3)
      obtain ⟨W8, hW8⟩ : ∃ W, w7.setCell ⟨sb, i * 5 + 3, none⟩ (.int .i64 za) = W := ⟨_, rfl⟩
      first | rw [hW8] at FA | (rw [Nat.add_zero, hW8] at FA)
      clear f1 f2 fz1 fz2
      go_wp2_with fail
      go_region
      all_goals go_wp2_with fail
      obtain ⟨l1, l2, l3⟩ := FA.out.nt
      have bb := Below.refl W8.heap.size W8
      have HWX := Lib.hid (fun X (b : Below W8.heap.size W8 X) => H.out.below (FA.out.bel.trans (b.mono FA.out.bel.size)))
      obtain ⟨ns', ds', ni8, ch8⟩ := FA.out.net
      have NIX := Lib.hid (fun X (b : Below W8.heap.size W8 X) => ni8.below b)
      have CE := Lib.hid ch8
      clear hW8 x0 x1 x2 y0 y1 y2 y3 y4 fz hk1 hk2 ni8 ch8
      go_wp2_with fail
      go_region_held3 (fun w' => w'.cell? ⟨g, 0, none⟩ = some (.slice (some ⟨rb, 0, none⟩) N cn) ∧ w'.cell? ⟨g, 1, none⟩ = some (.slice (some ⟨sb, 0, none⟩) M cd) ∧ Below W8.heap.size W8 w')
        (first
          | exact err_all l1 l2 l3 (Below.trans (by repeat (first | exact Below.refl _ _ | apply Below.drew | apply below_drewN | refine Below.alloc ?_ (by simp) _)) (Below.mono b9 (by simp)))
          | exact err_all l1 l2 l3 (by repeat (first | exact Below.refl _ _ | apply Below.drew | apply below_drewN | refine Below.alloc ?_ (by simp) _))
          | go_keep)
        (first
          | (go_at_call 28; refine (way_err (some ⟨rb, 0, none⟩) (some ⟨sb, 0, none⟩) N cn M cd _ ns' ds' 0 0 7 _ (HWX.out _ (by repeat (first | exact Below.refl _ _ | apply Below.drew | apply below_drewN | refine Below.alloc ?_ (by simp) _))) (NIX.out _ (by repeat (first | exact Below.refl _ _ | apply Below.drew | apply below_drewN | refine Below.alloc ?_ (by simp) _))) CE.out (by decide)).mono ?_; rintro e w9 ⟨rfl, b9⟩))
      rename_i hS9
      have B9 := Lib.hid hS9.2.2
      obtain ⟨m1, m2, -⟩ := hS9
      have NT9 := Lib.hid (FA.out.nt.below B9.out l3)
      clear b9 l1 l2
      go_wp2_with fail
      refine (check_is (some ⟨rb, 0, none⟩) (some ⟨sb, 0, none⟩) N cn M cd ns' ds' 7 _ (HWX.out _ B9.out) (NIX.out _ B9.out) CE.out).mono ?_; rintro e w10 ⟨rfl, b10⟩
      have B10 := Lib.hid (B9.out.trans (b10.mono B9.out.size))
      obtain ⟨o1, o2, -⟩ := NT9.out.below b10 NT9.out.2.2
      clear b10 m1 m2
      go_wp2_with fail
      refine (node_is (some ⟨rb, 0, none⟩) (some ⟨sb, 0, none⟩) N cn M cd ns' ds' ⟨#[78, 48, 49]⟩ (-1) _ (HWX.out _ B10.out) (NIX.out _ B10.out) (by rw [CE.out, if_neg (by decide)])).mono ?_; rintro e w11 ⟨rfl, b11⟩
      have B11 := Lib.hid (B10.out.trans (b11.mono B10.out.size))
      have NT11 := Lib.hid (FA.out.nt.below B11.out l3)
      obtain ⟨p1, p2, -⟩ := NT11.out
      clear b11 o1 o2
      go_wp2_with fail
      refine (at_is (some ⟨rb, 0, none⟩) (some ⟨sb, 0, none⟩) N cn M cd ns' ds' 0 _ (HWX.out _ B11.out) (NIX.out _ B11.out) (by decide) (by decide)).mono ?_; rintro e w12 ⟨yv, rfl, nu, b12⟩
      have eR : atR ns' ds' 0 = [] := by unfold atR; rw [if_neg (fun h => by have := h.1; rw [CE.out] at this; exact absurd this (by decide))]
      rw [eR] at nu
      obtain ⟨ya, yc, rfl, -⟩ := AggsAt.length nu encN_len
      have B12 := Lib.hid (B11.out.trans (b12.mono B11.out.size))
      clear nu b12 p1 p2 eR
      go_wp2_with fail
      refine (awake_is _ (HWX.out _ B12.out)).mono ?_; rintro e w13 ⟨rfl, b13⟩
      have BZ := Lib.hid (FA.out.bel.trans ((B12.out.trans (b13.mono B12.out.size)).mono FA.out.bel.size))
      clear b13
      go_wp2
      go_ret
      exact ⟨rfl, BZ.out⟩
    · have FA := Lib.hid (SETD.out 4 (.int .i64 (-1)) ⟨ds[i].nm, ds[i].ki, ds[i].a, ds[i].b, -1⟩ (by decide) rfl FI.out 5 (arm8 CH.out i hix))
      have fz := fz2 (i * 5 + 4)
      obtain ⟨W8, hW8⟩ : ∃ W, w7.setCell ⟨sb, i * 5 + 4, none⟩ (.int .i64 (-1)) = W := ⟨_, rfl⟩
      first | rw [hW8] at FA | (rw [Nat.add_zero, hW8] at FA)
      clear f1 f2 fz1 fz2
      go_wp2_with fail
      skip
      obtain ⟨l1, l2, l3⟩ := FA.out.nt
      have bb := Below.refl W8.heap.size W8
      have HWX := Lib.hid (fun X (b : Below W8.heap.size W8 X) => H.out.below (FA.out.bel.trans (b.mono FA.out.bel.size)))
      obtain ⟨ns', ds', ni8, ch8⟩ := FA.out.net
      have NIX := Lib.hid (fun X (b : Below W8.heap.size W8 X) => ni8.below b)
      have CE := Lib.hid ch8
      clear hW8 x0 x1 x2 y0 y1 y2 y3 y4 fz hk1 hk2 ni8 ch8
      go_wp2_with fail
      go_region_held3 (fun w' => w'.cell? ⟨g, 0, none⟩ = some (.slice (some ⟨rb, 0, none⟩) N cn) ∧ w'.cell? ⟨g, 1, none⟩ = some (.slice (some ⟨sb, 0, none⟩) M cd) ∧ Below W8.heap.size W8 w')
        (first
          | exact err_all l1 l2 l3 (Below.trans (by repeat (first | exact Below.refl _ _ | apply Below.drew | apply below_drewN | refine Below.alloc ?_ (by simp) _)) (Below.mono b9 (by simp)))
          | exact err_all l1 l2 l3 (by repeat (first | exact Below.refl _ _ | apply Below.drew | apply below_drewN | refine Below.alloc ?_ (by simp) _))
          | go_keep)
        (first
          | (go_at_call 28; refine (way_err (some ⟨rb, 0, none⟩) (some ⟨sb, 0, none⟩) N cn M cd _ ns' ds' 0 0 5 _ (HWX.out _ (by repeat (first | exact Below.refl _ _ | apply Below.drew | apply below_drewN | refine Below.alloc ?_ (by simp) _))) (NIX.out _ (by repeat (first | exact Below.refl _ _ | apply Below.drew | apply below_drewN | refine Below.alloc ?_ (by simp) _))) CE.out (by decide)).mono ?_; rintro e w9 ⟨rfl, b9⟩))
      rename_i hS9
      have B9 := Lib.hid hS9.2.2
      obtain ⟨m1, m2, -⟩ := hS9
      have NT9 := Lib.hid (FA.out.nt.below B9.out l3)
      clear b9 l1 l2
      go_wp2_with fail
      refine (check_is (some ⟨rb, 0, none⟩) (some ⟨sb, 0, none⟩) N cn M cd ns' ds' 5 _ (HWX.out _ B9.out) (NIX.out _ B9.out) CE.out).mono ?_; rintro e w10 ⟨rfl, b10⟩
      have B10 := Lib.hid (B9.out.trans (b10.mono B9.out.size))
      obtain ⟨o1, o2, -⟩ := NT9.out.below b10 NT9.out.2.2
      clear b10 m1 m2
      go_wp2_with fail
      refine (node_is (some ⟨rb, 0, none⟩) (some ⟨sb, 0, none⟩) N cn M cd ns' ds' ⟨#[78, 48, 49]⟩ (-1) _ (HWX.out _ B10.out) (NIX.out _ B10.out) (by rw [CE.out, if_neg (by decide)])).mono ?_; rintro e w11 ⟨rfl, b11⟩
      have B11 := Lib.hid (B10.out.trans (b11.mono B10.out.size))
      have NT11 := Lib.hid (FA.out.nt.below B11.out l3)
      obtain ⟨p1, p2, -⟩ := NT11.out
      clear b11 o1 o2
      go_wp2_with fail
      refine (at_is (some ⟨rb, 0, none⟩) (some ⟨sb, 0, none⟩) N cn M cd ns' ds' 0 _ (HWX.out _ B11.out) (NIX.out _ B11.out) (by decide) (by decide)).mono ?_; rintro e w12 ⟨yv, rfl, nu, b12⟩
      have eR : atR ns' ds' 0 = [] := by unfold atR; rw [if_neg (fun h => by have := h.1; rw [CE.out] at this; exact absurd this (by decide))]
      rw [eR] at nu
      obtain ⟨ya, yc, rfl, -⟩ := AggsAt.length nu encN_len
      have B12 := Lib.hid (B11.out.trans (b12.mono B11.out.size))
      clear nu b12 p1 p2 eR
      go_wp2_with fail
      refine (awake_is _ (HWX.out _ B12.out)).mono ?_; rintro e w13 ⟨rfl, b13⟩
      have BZ := Lib.hid (FA.out.bel.trans ((B12.out.trans (b13.mono B12.out.size)).mono FA.out.bel.size))
      clear b13
      go_wp2
      go_ret
      exact ⟨rfl, BZ.out⟩
  · have t1 : decide ((len : Int) ≤ 400) = false := decide_eq_false (by omega)
    go_enter Tryd.func8, Tryd.ntmps8
    go_wp2_with fail
    refine (few_any _ _ _ _ hl).mono ?_; rintro e w' ⟨rfl, rfl⟩
    go_wp2_with fail
    refine (awake_is _ H.out).mono ?_; rintro e w2 ⟨rfl, b2⟩
    go_wp2
    go_ret
    exact ⟨rfl, b2⟩
end Go.Proofs.YtleggojgcaefdaaDoor.net
