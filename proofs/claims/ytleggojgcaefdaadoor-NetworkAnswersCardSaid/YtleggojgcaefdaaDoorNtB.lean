/- For every list of numbers, network, name and numbers NetworkAnswers returns true: the program's functions on networks say what the reference says. Condition: the table 'classes' holds what the program's text lays (the card ties that). -/
import Derived.Test.YtleggojgcaefdaaDoorNtA
import Derived.Test.YtleggojgcaefdaaDoorNetZ
import Derived.Deep.RegionHeld3
namespace Go.Proofs.YtleggojgcaefdaaDoor.net
open Go.RowKit lex aggs kit deck

/-- a network that can be read, apart from block bd -/
def NF (W : World) (bd : Nat) (a b : Option Addr) (N c M d : Nat) (ns : List Nd) (ds : List Dv) : Prop := NetIn W a b N c M d ns ds ∧ (∀ p, a = some p → p.block ≠ bd) ∧ (∀ p, b = some p → p.block ≠ bd)
theorem keeps_gb {W W' : World} {bd : Nat} (h : W.grownBy W' (some bd)) : Keeps W.heap.size bd W W' := ⟨h.size, fun k hk hne => h.block k hk (fun e => hne (by injection e))⟩
theorem NF.keep {W W' : World} {bd : Nat} {a b : Option Addr} {N c M d : Nat} {ns : List Nd} {ds : List Dv} (h : NF W bd a b N c M d ns ds) (g : W.grownBy W' (some bd)) : NetIn W' a b N c M d ns ds :=
  h.1.keeps (keeps_gb g) (Nat.le_refl _) h.2.1 h.2.2
theorem NF.keep2 {W W' : World} {bd : Nat} {a b : Option Addr} {N c M d : Nat} {ns : List Nd} {ds : List Dv} (h : NF W bd a b N c M d ns ds) (g : W.grownBy W' (some bd)) : NF W' bd a b N c M d ns ds := ⟨h.keep g, h.2⟩
theorem gb_tr {W W1 W2 : World} {bd : Nat} (h : W.grownBy W1 (some bd)) (g : W1.grownBy W2 (some bd)) : W.grownBy W2 (some bd) := h.andThen g (fun _ hj => .inr hj)
theorem gb_be {W W1 W2 : World} {bd : Nat} (h : W.grownBy W1 (some bd)) (b : Below W1.heap.size W1 W2) : W.grownBy W2 (some bd) := gb_below h b
theorem gb_cell {W W1 : World} {bd g i : Nat} {v : Value} (h : W.cell? ⟨g, i, none⟩ = some v) (gb : W.grownBy W1 (some bd)) (hne : g ≠ bd) : W1.cell? ⟨g, i, none⟩ = some v := gb.cell h (by simp; exact hne)
section
variable {w0 WS X Y : World} {bd len cap g k : Nat} {a : Option Addr} {v0 v1 u0 u1 : Value}
theorem two_below (h : X.cell? ⟨g, 0, none⟩ = some v0 ∧ X.cell? ⟨g, 1, none⟩ = some v1 ∧ Game w0 X bd a len cap ∧ WS.grownBy X (some bd)) (hg : g ≠ bd) (b : Below X.heap.size X Y) :
    Y.cell? ⟨g, 0, none⟩ = some v0 ∧ Y.cell? ⟨g, 1, none⟩ = some v1 ∧ Game w0 Y bd a len cap ∧ WS.grownBy Y (some bd) := by
  have gb := gb_be (gb_refl X (some bd)) b
  exact ⟨gb_cell h.1 gb hg, gb_cell h.2.1 gb hg, h.2.2.1.by_below b, gb_tr h.2.2.2 gb⟩
theorem four_keep (h : X.cell? ⟨g, 0, none⟩ = some v0 ∧ X.cell? ⟨g, 1, none⟩ = some v1 ∧ X.cell? ⟨k, 0, none⟩ = some u0 ∧ X.cell? ⟨k, 1, none⟩ = some u1 ∧ Game w0 X bd a len cap ∧ WS.grownBy X (some bd)) (hg : g ≠ bd) (hk : k ≠ bd) (gm : Game w0 Y bd a len cap) (gb : X.grownBy Y (some bd)) :
    Y.cell? ⟨g, 0, none⟩ = some v0 ∧ Y.cell? ⟨g, 1, none⟩ = some v1 ∧ Y.cell? ⟨k, 0, none⟩ = some u0 ∧ Y.cell? ⟨k, 1, none⟩ = some u1 ∧ Game w0 Y bd a len cap ∧ WS.grownBy Y (some bd) :=
  ⟨gb_cell h.1 gb hg, gb_cell h.2.1 gb hg, gb_cell h.2.2.1 gb hk, gb_cell h.2.2.2.1 gb hk, gm, gb_tr h.2.2.2.2.2 gb⟩
theorem four_below (h : X.cell? ⟨g, 0, none⟩ = some v0 ∧ X.cell? ⟨g, 1, none⟩ = some v1 ∧ X.cell? ⟨k, 0, none⟩ = some u0 ∧ X.cell? ⟨k, 1, none⟩ = some u1 ∧ Game w0 X bd a len cap ∧ WS.grownBy X (some bd)) (hg : g ≠ bd) (hk : k ≠ bd) (b : Below X.heap.size X Y) :
    Y.cell? ⟨g, 0, none⟩ = some v0 ∧ Y.cell? ⟨g, 1, none⟩ = some v1 ∧ Y.cell? ⟨k, 0, none⟩ = some u0 ∧ Y.cell? ⟨k, 1, none⟩ = some u1 ∧ Game w0 Y bd a len cap ∧ WS.grownBy Y (some bd) :=
  four_keep h hg hk (h.2.2.2.2.1.by_below b) (gb_be (gb_refl X (some bd)) b)
theorem four_game (h : X.cell? ⟨g, 0, none⟩ = some v0 ∧ X.cell? ⟨g, 1, none⟩ = some v1 ∧ X.cell? ⟨k, 0, none⟩ = some u0 ∧ X.cell? ⟨k, 1, none⟩ = some u1 ∧ Game w0 X bd a len cap ∧ WS.grownBy X (some bd)) : Game w0 X bd a len cap ∧ WS.grownBy X (some bd) := h.2.2.2.2
theorem four_drew (h : X.cell? ⟨g, 0, none⟩ = some v0 ∧ X.cell? ⟨g, 1, none⟩ = some v1 ∧ X.cell? ⟨k, 0, none⟩ = some u0 ∧ X.cell? ⟨k, 1, none⟩ = some u1 ∧ Game w0 X bd a len cap ∧ WS.grownBy X (some bd)) :
    X.drew.cell? ⟨g, 0, none⟩ = some v0 ∧ X.drew.cell? ⟨g, 1, none⟩ = some v1 ∧ X.drew.cell? ⟨k, 0, none⟩ = some u0 ∧ X.drew.cell? ⟨k, 1, none⟩ = some u1 ∧ Game w0 X.drew bd a len cap ∧ WS.grownBy X.drew (some bd) :=
  ⟨h.1, h.2.1, h.2.2.1, h.2.2.2.1, h.2.2.2.2.1.drew, gb_drew h.2.2.2.2.2⟩
end
set_option maxRecDepth 100000 in
set_option maxHeartbeats 16000000 in
theorem answers_walk (la : Option Addr) (len cap : Nat) (zs : List Int) (ra rb : Option Addr) (RN rc RM rd : Nat) (rns : List Nd) (rds : List Dv) (s : ByteArray) (kind a b : Int) (ua : Option Addr) (ul uc : Nat) (us : List Bool) (w : World)
    (hr : IsRow .i64 w la len cap zs) (hraw : NetIn w ra rb RN rc RM rd rns rds) (k0 : -9223372036854775808 ≤ kind) (k1 : kind ≤ 9223372036854775807) (a0 : -9223372036854775808 ≤ a) (a1 : a ≤ 9223372036854775807) (b0 : -9223372036854775808 ≤ b) (b1 : b ≤ 9223372036854775807)
    (hsz : s.size ≤ maxLen) (hu : RIn encB 1 w ua us) (hul : us.length = ul) (hU : ul ≤ maxLen) (h : HasClasses w) :
    Calls Tryd.prog 3 #[.slice la len cap, .agg #[.slice ra RN rc, .slice rb RM rd], .string s, .int .i64 kind, .int .i64 a, .int .i64 b, .slice ua ul uc] w fun e w' => e = .returned (.bool true) ∧ Below w.heap.size w w' := by
  have hl : len ≤ 9223372036854775807 := by
    rcases hr with ⟨_, h, _⟩ | ⟨_, _, h1, h2, _⟩
    · omega
    · unfold maxLen at h2; omega
  have H := Lib.hid h
  have HR := Lib.hid hr
  have RAW := Lib.hid hraw
  have HU := Lib.hid hu
  have HUL := Lib.hid hul
  have HUM := Lib.hid hU
  unfold maxLen at hU hsz
  have bx := below_box w (.cells #[.slice ra RN rc, .slice rb RM rd] 26)
  have BX := Lib.hid bx
  have NTX := Lib.hid (NtAt.new w (.slice ra RN rc) (.slice rb RM rd) 26)
  have LI := Lib.hid (light_is ra rb RN rc RM rd rns rds _ (hraw.below bx))
  clear h hr hraw hu hul bx
  by_cases h4 : len ≤ 400
  · have t1 : decide ((len : Int) ≤ 400) = true := decide_eq_true (by omega)
    go_enter Tryd.func3, Tryd.ntmps3
    go_wp2_with fail
    refine (few_any _ _ _ _ hl).mono ?_; rintro e w' ⟨rfl, rfl⟩
    go_wp2_with fail
    refine LI.out.mono ?_; rintro e W0 ⟨⟨r, rfl⟩, b0'⟩
    have B0 := Lib.hid (BX.out.trans (b0'.mono BX.out.size))
    have NT0 := Lib.hid (NTX.out.below b0' NTX.out.2.2)
    clear b0' LI NTX BX
    cases r
    · go_wp2_with fail
      refine (awake_is _ (H.out.below B0.out)).mono ?_; rintro e w4 ⟨rfl, b4⟩
      have BZ := Lib.hid (B0.out.trans (b4.mono B0.out.size))
      clear b4
      go_wp2
      go_ret
      exact ⟨rfl, BZ.out⟩
    · by_cases h5 : s.size ≤ 100
      · have t5 : decide ((100 : Int) < (s.size : Int)) = false := decide_eq_false (by omega)
        by_cases h6 : ul ≤ 200
        · have t6 : decide ((200 : Int) < (ul : Int)) = false := decide_eq_false (by omega)
          have H0 := Lib.hid (H.out.below B0.out)
          have HR0 := Lib.hid (HR.out.below B0.out)
          have RAW0 := Lib.hid (RAW.out.below B0.out)
          have HU0 := Lib.hid (HU.out.below B0.out)
          clear H HR RAW HU
          obtain ⟨x0, hx0⟩ : ∃ x, w.heap.size = x := ⟨_, rfl⟩
          have HX0 := Lib.hid hx0
          rw [hx0] at NT0
          have hxl := NT0.out.2.2
          clear h4 h5 h6 hl
          go_wp2_with fail
          clear hx0
          refine (newg_any _ _ _ _).mono ?_; rintro e w1 ⟨rfl, g1⟩
          have hbw := g1.lt
          obtain ⟨bd, hbd⟩ : ∃ b, W0.heap.size = b := ⟨_, rfl⟩
          have HB := Lib.hid hbd
          rw [hbd] at hbw g1 hxl ⊢
          clear hbd
          go_wp2_with fail
          refine (network_is (nodes := 7) (devices := 12) g1 HR0.out (by decide) (by decide) (by decide) (by decide)).mono ?_
          rintro e W2 ⟨vn, vd, ns, ds, rfl, g2, rn, rdd, gn, gd, n1, n2, d1, d2⟩
          obtain ⟨an, cn, ad, cd, rfl, rfl, ni, z1, z2⟩ := rows_net rn rdd (by omega) gn gd hbw
          obtain ⟨N, hN⟩ : ∃ N, ns.length = N := ⟨_, rfl⟩
          obtain ⟨M, hM⟩ : ∃ M, ds.length = M := ⟨_, rfl⟩
          rw [hN] at n1 n2 ni ⊢
          rw [hM] at d1 d2 ni ⊢
          have NI := Lib.hid ni
          have Z1 := Lib.hid z1
          have Z2 := Lib.hid z2
          have hb2 := g2.lt
          have NT := Lib.hid (NtAt.new W2 (.slice an N cn) (.slice ad M cd) 26)
          have G3 := Lib.hid (g2.alloc (.cells #[.slice an N cn, .slice ad M cd] 26))
          clear rn rdd gn gd hN hM ni z1 z2 g1 g2 hbw w1
          have hmk := make_flags M (by omega)
          obtain ⟨g, hg⟩ : ∃ g, W2.heap.size = g := ⟨_, rfl⟩
          rw [hg] at NT hb2
          obtain ⟨W3, hW3⟩ : ∃ W3, W2.alloc (.cells #[.slice an N cn, .slice ad M cd] 26) = W3 := ⟨_, rfl⟩
          have NI3 := Lib.hid (NI.out.below (below_box W2 (.cells #[.slice an N cn, .slice ad M cd] 26)))
          have hs3 : W3.heap.size = g + 1 := by rw [← hW3, ← hg]; simp
          rw [hW3] at NT G3 NI3
          have k2 := NT.out.2.1
          have hgb : g ≠ bd := by omega
          clear NI
          have KP : Hid (Keeps (g + 1) bd W3 (W3.alloc (.cells (madeCells #[.bool false] M) 4))) := (Keeps.refl (g + 1) bd W3).alloc (by omega) _
          have GA := Lib.hid (G3.out.alloc (.cells (madeCells #[.bool false] M) 4))
          have FA := Lib.hid (Flags.new W3 M 4)
          rw [hs3] at FA
          go_wp2_with fail
          clear hW3 hg k2
          go_loopw [64] (fun i wr => ∃ (j : Nat) (f : Nat → Bool), j ≤ M ∧ i = .int .i64 j ∧ Hid (Game W0 wr bd la len cap) ∧ Hid (Keeps (g + 1) bd W3 wr) ∧ Hid (Flags wr (g + 1) M f)) (fun i _ => M - (intOf i).toNat)
          case atStart => exact ⟨0, _, Nat.zero_le _, rfl, GA, KP, FA⟩
          case round =>
            clear KP GA FA
            obtain ⟨j, f, hjM, rfl, gm0, kp, ff⟩ := hrel
            by_cases hj : j < M
            · go_wp2_with fail
              refine (one_is gm0.out HR0.out 4 (by decide)).mono ?_; rintro e W5 ⟨r, rfl, gm, gb⟩
              have F5 := Lib.hid (ff.out.other gb (by simp; omega))
              have K5 := Lib.hid (kp.out.grown gb (by have := kp.out.1; omega) (fun k hk => by cases hk; exact .inl rfl))
              have G5 := Lib.hid gm
              clear gm gb
              obtain ⟨x1, x2⟩ := F5.out.get hj
              have gp := gb_set (b := g + 1) (i := j) (Value.bool (!r)) (gb_refl W5 (some (g + 1)))
              have F6 := Lib.hid (F5.out.set j hj (!r))
              have K6 := Lib.hid (K5.out.grown gp (by have := K5.out.1; omega) (fun k hk => by cases hk; exact .inr (by omega)))
              have G6 := Lib.hid (G5.out.grown gp (by simp; omega) (fun k hk => by cases hk; have := G3.out.mine; have := HB.out; omega))
              clear gp
              go_wp2
              go_roundw
              case rel => exact ⟨j + 1, _, by omega, by go_num, G6, K6, F6⟩
              case measure => simp [intOf]; omega
            · obtain rfl : M = j := by omega
              have KW := kp.out
              have NTW := Lib.hid (NT.out.keeps KW (by omega) hgb)
              have NTR := Lib.hid (NT0.out.keeps (H := x0 + 1) (bd := bd) ⟨gm0.out.below.size, fun k hk _ => gm0.out.below.block k (by have := HB.out; omega)⟩ (by omega) (by omega))
              obtain ⟨q0, q1, -⟩ := NTW.out
              obtain ⟨p0, p1, -⟩ := NTR.out
              have gr0 := gb_refl wr (some bd)
              have gm1 := gm0.out
              have NFn : NF wr bd an ad N cn M cd ns ds := ⟨NI3.out.keeps KW (by omega) Z1.out Z2.out, Z1.out, Z2.out⟩
              have bs0 := gm0.out.below
              rw [HB.out] at bs0
              have raw_lt : ∀ (α : Type) (enc : α → List Value) (k : Nat) (x : Option Addr) (xs : List α), RIn enc k W0 x xs → ∀ p, x = some p → p.block ≠ bd := fun α enc k x xs h p hp => by
                rcases h with ⟨h, _⟩ | ⟨bb, off, h1, h2, _⟩
                · rw [h] at hp; cases hp
                · rw [h1] at hp; cases hp; have := HB.out; dsimp only; omega
              have NFr : NF wr bd ra rb RN rc RM rd rns rds := ⟨RAW0.out.below (by rw [HB.out]; exact bs0), raw_lt _ _ _ _ _ RAW0.out.nin, raw_lt _ _ _ _ _ RAW0.out.din⟩
              have UZ := Lib.hid (raw_lt _ _ _ _ _ HU0.out)
              have UW := Lib.hid (HU0.out.below (by rw [HB.out]; exact bs0))
              have FW := Lib.hid ff.out.rin
              have NFN := Lib.hid NFn
              have NFR := Lib.hid NFr
              have hxb : x0 ≠ bd := by omega
              clear KW NTW NTR NFn NFr raw_lt bs0 ff kp
              go_wp2_with fail
              go_region_held3 (fun w' => w'.cell? ⟨g, 0, none⟩ = some (.slice an N cn) ∧ w'.cell? ⟨g, 1, none⟩ = some (.slice ad M cd) ∧ w'.cell? ⟨x0, 0, none⟩ = some (.slice ra RN rc) ∧ w'.cell? ⟨x0, 1, none⟩ = some (.slice rb RM rd) ∧ Game W0 w' bd la len cap ∧ wr.grownBy w' (some bd))
                (first | exact four_drew ⟨q0, q1, p0, p1, gm1, gr0⟩ | exact ⟨q0, q1, p0, p1, gm1, gr0⟩ | exact four_drew (by assumption) | exact four_keep (by assumption) hgb hxb (by assumption) (by assumption) | exact four_below (by assumption) hgb hxb (below_box _ _) | exact four_drew (four_keep (by assumption) hgb hxb (by assumption) (by assumption)) | go_keep)
                (first
                  | (go_at_call 15; refine (odd_is (four_game (by assumption)).1 HR0.out an ad N cn M cd ns ds (NFN.out.keep (four_game (by assumption)).2) (by omega) (by omega) (by omega) (by omega) Z1.out Z2.out).mono ?_
                     rintro e w7 ⟨a', b', N', c', M', d', ns', ds', rfl, ni', z1', z2', gm, gb⟩))
              rename_i hS
              have hcx := heap_alloc_new w7 (.cells #[.slice an N cn, .slice ad M cd, .slice ra RN rc, .slice rb RM rd, .slice a' N' c', .slice b' M' d'] 26)
              have NF3 : NF (w7.alloc (.cells #[.slice an N cn, .slice ad M cd, .slice ra RN rc, .slice rb RM rd, .slice a' N' c', .slice b' M' d'] 26)) bd a' b' N' c' M' d' ns' ds' := ⟨ni'.below (below_box _ _), fun p hp => (z1' p hp).1, fun p hp => (z2' p hp).1⟩
              have hxs8 : w7.heap.size ≠ bd := by have := gm.lt; omega
              obtain ⟨xs, hxs⟩ : ∃ x, w7.heap.size = x := ⟨_, rfl⟩
              obtain ⟨W8, hW8⟩ : ∃ W, w7.alloc (.cells #[.slice an N cn, .slice ad M cd, .slice ra RN rc, .slice rb RM rd, .slice a' N' c', .slice b' M' d'] 26) = W := ⟨_, rfl⟩
              rw [hW8] at hS hcx NF3 ⊢
              rw [hxs] at hcx hxs8 ⊢
              have gmr := four_game hS
              have NF1 : NF W8 bd an ad N cn M cd ns ds := NFN.out.keep2 gmr.2
              have NF2 : NF W8 bd ra rb RN rc RM rd rns rds := NFR.out.keep2 gmr.2
              have FX : Hid (∀ j, j < 3 → ∃ a N c b M d ns ds, W8.cell? ⟨xs, j * 2, none⟩ = some (.slice a N c) ∧ W8.cell? ⟨xs, j * 2 + 1, none⟩ = some (.slice b M d) ∧ NF W8 bd a b N c M d ns ds) := fun j hj => by
                rcases (show j = 0 ∨ j = 1 ∨ j = 2 by omega) with rfl | rfl | rfl
                · exact ⟨an, N, cn, ad, M, cd, ns, ds, (cell_at hcx 0).1, (cell_at hcx 1).1, NF1⟩
                · exact ⟨ra, RN, rc, rb, RM, rd, rns, rds, (cell_at hcx 2).1, (cell_at hcx 3).1, NF2⟩
                · exact ⟨a', N', c', b', M', d', ns', ds', (cell_at hcx 4).1, (cell_at hcx 5).1, NF3⟩
              have G8 := Lib.hid gmr.1
              have H8 : Hid (∀ W, Game W0 W bd la len cap → HasClasses W) := fun W g => H0.out.below g.below
              have U8 : Hid (∀ W, W8.grownBy W (some bd) → RIn encB 1 W ua us) := fun W h => UW.out.keeps (keeps_gb (gb_tr gmr.2 h)) (Nat.le_refl _) UZ.out
              have F8 : Hid (∀ W, W8.grownBy W (some bd) → RIn encB 1 W (some ⟨g + 1, 0, none⟩) (usL M f)) := fun W h => FW.out.keeps (keeps_gb (gb_tr gmr.2 h)) (Nat.le_refl _) (fun p hp => by cases hp; dsimp only; omega)
              clear hS hcx NF1 NF2 NF3 gmr hW8 hxs gm gb ni' z1' z2' q0 q1 p0 p1 gm1 gr0 NFN NFR UW FW gm0 NI3 NT NT0 G3 RAW0 HU0
              go_wp2_with fail
              go_loopw [81] (fun i wr => ∃ j : Nat, j ≤ 3 ∧ i = .int .i64 j ∧ Hid (W8.grownBy wr (some bd)) ∧ Hid (Game W0 wr bd la len cap)) (fun i _ => 3 - (intOf i).toNat)
              case atStart => exact ⟨0, Nat.zero_le _, rfl, gb_refl _ _, G8⟩
              case round =>
                clear G8
                obtain ⟨j, hj3, rfl, gb8, gm8⟩ := hrel
                by_cases hj : j < 3
                · obtain ⟨xa, xN, xc, xb, xM, xd, xns, xds, y0, y1, nf⟩ := FX.out j hj
                  have y0 := gb_cell y0 gb8.out hxs8
                  have y1 := gb_cell y1 gb8.out hxs8
                  have NTx := NtAt.new wr (.slice xa xN xc) (.slice xb xM xd) 26
                  have bA := below_box wr (.cells #[.slice xa xN xc, .slice xb xM xd] 26)
                  obtain ⟨gx, hgx⟩ : ∃ x, wr.heap.size = x := ⟨_, rfl⟩
                  obtain ⟨WA, hWA⟩ : ∃ W, wr.alloc (.cells #[.slice xa xN xc, .slice xb xM xd] 26) = W := ⟨_, rfl⟩
                  rw [hWA] at NTx bA
                  rw [hgx] at NTx
                  have hgx8 : gx ≠ bd := by have := gm8.out.lt; omega
                  have gA8 := gb_be (gb_refl wr (some bd)) bA
                  have gmA := gm8.out.by_below bA
                  have NFA := Lib.hid (nf.keep2 (gb_tr gb8.out gA8))
                  obtain ⟨q0, q1, -⟩ := NTx
                  have gr0 := gb_refl WA (some bd)
                  obtain ⟨E, hE⟩ : ∃ E, chk xns xds = E := ⟨_, rfl⟩
                  have HE := Lib.hid hE
                  clear bA hE nf
                  go_wp2_with fail
                  clear hWA hgx y0 y1
                  go_region_held3 (fun w' => w'.cell? ⟨gx, 0, none⟩ = some (.slice xa xN xc) ∧ w'.cell? ⟨gx, 1, none⟩ = some (.slice xb xM xd) ∧ Game W0 w' bd la len cap ∧ WA.grownBy w' (some bd))
                    (first | exact two_drew ⟨q0, q1, gmA, gr0⟩ | exact ⟨q0, q1, gmA, gr0⟩ | exact two_drew (by assumption) | exact two_below (by assumption) hgx8 (by assumption) | go_keep)
                    (first
                      | (go_at_call 16; refine (check_is xa xb xN xc xM xd xns xds E _ (H8.out _ (two_game (by assumption)).1) (NFA.out.keep (two_game (by assumption)).2) HE.out).mono ?_; rintro e w5 ⟨rfl, b5⟩)
                      | (go_at_call 17; refine (rcheck_is xa xb xN xc xM xd xns xds E _ (NFA.out.keep (two_game (by assumption)).2) HE.out).mono ?_; rintro e w5 ⟨rfl, b5⟩))
                  rename_i hS
                  have hcs := heap_alloc_new w5 (.cells #[.string s, .string ⟨#[78, 48, 49]⟩, .string ⟨#[78, 48, 48]⟩, .string ⟨#[83, 48, 48]⟩] 9)
                  have hsb8 : w5.heap.size ≠ bd := by have := (two_game hS).1.lt; omega
                  have bS := below_box w5 (.cells #[.string s, .string ⟨#[78, 48, 49]⟩, .string ⟨#[78, 48, 48]⟩, .string ⟨#[83, 48, 48]⟩] 9)
                  obtain ⟨sb, hsb⟩ : ∃ x, w5.heap.size = x := ⟨_, rfl⟩
                  obtain ⟨WS, hWS⟩ : ∃ W, w5.alloc (.cells #[.string s, .string ⟨#[78, 48, 49]⟩, .string ⟨#[78, 48, 48]⟩, .string ⟨#[83, 48, 48]⟩] 9) = W := ⟨_, rfl⟩
                  rw [hWS] at hcs bS
                  rw [hsb] at hcs hsb8
                  have gS5 := (two_game hS).2
                  have gB5 := gb_be (gb_refl w5 (some bd)) bS
                  have GS := Lib.hid ((two_game hS).1.by_below bS)
                  have NFS := Lib.hid (NFA.out.keep2 (gb_tr gS5 gB5))
                  have CS : Hid (WS.cell? ⟨gx, 0, none⟩ = some (.slice xa xN xc) ∧ WS.cell? ⟨gx, 1, none⟩ = some (.slice xb xM xd)) := ⟨gb_cell hS.1 gB5 hgx8, gb_cell hS.2.1 gB5 hgx8⟩
                  have GBS := Lib.hid (gb_tr gb8.out (gb_tr gA8 (gb_tr gS5 gB5)))
                  have FS : Hid (∀ k, k < 4 → ∃ t : ByteArray, WS.cell? ⟨sb, k, none⟩ = some (.string t)) := fun k hk => by
                    rcases (show k = 0 ∨ k = 1 ∨ k = 2 ∨ k = 3 by omega) with rfl | rfl | rfl | rfl
                    · exact ⟨_, (cell_at hcs 0).1⟩
                    · exact ⟨_, (cell_at hcs 1).1⟩
                    · exact ⟨_, (cell_at hcs 2).1⟩
                    · exact ⟨_, (cell_at hcs 3).1⟩
                  clear hcs bS hS q0 q1 gmA gr0 b5
                  go_wp2_with fail
                  clear hWS hsb
                  go_loopw [93] (fun i wr => ∃ k : Nat, k ≤ 4 ∧ i = .int .i64 k ∧ Hid (WS.grownBy wr (some bd)) ∧ Hid (Game W0 wr bd la len cap)) (fun i _ => 4 - (intOf i).toNat)
                  case atStart => exact ⟨0, Nat.zero_le _, rfl, gb_refl _ _, GS⟩
                  case round =>
                    clear GS
                    obtain ⟨k, hk4, rfl, gbk, gmk⟩ := hrel
                    by_cases hk : k < 4
                    · obtain ⟨t, ht⟩ := FS.out k hk
                      have y0 := gb_cell ht gbk.out hsb8
                      have q0 := gb_cell CS.out.1 gbk.out hgx8
                      have q1 := gb_cell CS.out.2 gbk.out hgx8
                      have gmA := gmk.out
                      have gr0 := gb_refl wr (some bd)
                      have NFK := Lib.hid (NFS.out.keep2 gbk.out)
                      obtain ⟨R1, hR1⟩ : ∃ R, (if chk xns xds = 0 then fnd (nmsN xns) t else -1) = R := ⟨_, rfl⟩
                      obtain ⟨R2, hR2⟩ : ∃ R, (if chk xns xds = 0 then fnd (nmsD xds) t else -1) = R := ⟨_, rfl⟩
                      have HR1 := Lib.hid hR1
                      have HR2 := Lib.hid hR2
                      clear ht hR1 hR2
                      go_wp2_with fail
                      go_region_held3 (fun w' => w'.cell? ⟨gx, 0, none⟩ = some (.slice xa xN xc) ∧ w'.cell? ⟨gx, 1, none⟩ = some (.slice xb xM xd) ∧ Game W0 w' bd la len cap ∧ wr.grownBy w' (some bd))
                        (first | exact two_drew ⟨q0, q1, gmA, gr0⟩ | exact ⟨q0, q1, gmA, gr0⟩ | exact two_drew (by assumption) | exact two_below (by assumption) hgx8 (by assumption) | go_keep)
                        (first
                          | (go_at_call 18; refine (node_is xa xb xN xc xM xd xns xds t R1 _ (H8.out _ (two_game (by assumption)).1) (NFK.out.keep (two_game (by assumption)).2) HR1.out).mono ?_; rintro e w5 ⟨rfl, b5⟩)
                          | (go_at_call 19; refine (rnode_is xa xb xN xc xM xd xns xds t R1 _ (NFK.out.keep (two_game (by assumption)).2) HR1.out).mono ?_; rintro e w5 ⟨rfl, b5⟩)
                          | (go_at_call 20; refine (device_is xa xb xN xc xM xd xns xds t R2 _ (H8.out _ (two_game (by assumption)).1) (NFK.out.keep (two_game (by assumption)).2) HR2.out).mono ?_; rintro e w5 ⟨rfl, b5⟩)
                          | (go_at_call 21; refine (rdevice_is xa xb xN xc xM xd xns xds t R2 _ (NFK.out.keep (two_game (by assumption)).2) HR2.out).mono ?_; rintro e w5 ⟨rfl, b5⟩))
                      rename_i hS
                      have GBE := Lib.hid (gb_tr gbk.out (two_game hS).2)
                      have GME := Lib.hid (two_game hS).1
                      clear hS
                      go_wp2
                      go_roundw
                      case rel => exact ⟨k + 1, by omega, by go_num, GBE, GME⟩
                      case measure => simp [intOf]; omega
                    · obtain rfl : k = 4 := by omega
                      go_wp2_with fail
                      refine (gmk.out.next HR0.out 7 (by decide)).mono ?_; rintro e V1 ⟨r1, rfl, r10, r11, gm1, gb1⟩
                      have GV1 := Lib.hid gm1
                      have GW1 := Lib.hid gb1
                      clear gm1 gb1
                      go_wp2_with fail
                      refine (GV1.out.next HR0.out 7 (by decide)).mono ?_; rintro e V2 ⟨r2, rfl, r20, r21, gm1, gb1⟩
                      have GV2 := Lib.hid gm1
                      have GW2 := Lib.hid (gb_tr GW1.out gb1)
                      clear gm1 gb1
                      go_wp2_with fail
                      refine (GV2.out.next HR0.out 12 (by decide)).mono ?_; rintro e V3 ⟨r3, rfl, r30, r31, gm1, gb1⟩
                      have GV3 := Lib.hid gm1
                      have GW3 := Lib.hid (gb_tr GW2.out gb1)
                      clear gm1 gb1
                      go_wp2_with fail
                      refine (GV3.out.next HR0.out 7 (by decide)).mono ?_; rintro e V4 ⟨r4, rfl, r40, r41, gm1, gb1⟩
                      have GV4 := Lib.hid gm1
                      have GW4 := Lib.hid (gb_tr GW3.out gb1)
                      clear gm1 gb1
                      rw [show max (7 : Int) 1 = 7 from rfl] at r11 r21 r41
                      rw [show max (12 : Int) 1 = 12 from rfl] at r31
                      have hcp := heap_alloc_new V4 (.cells #[.int .i64 a, .int .i64 b, .int .i64 r1, .int .i64 r2, .int .i64 r3, .int .i64 r4] 41)
                      obtain ⟨pb, hpb⟩ : ∃ x, V4.heap.size = x := ⟨_, rfl⟩
                      obtain ⟨WP, hWP⟩ : ∃ W, V4.alloc (.cells #[.int .i64 a, .int .i64 b, .int .i64 r1, .int .i64 r2, .int .i64 r3, .int .i64 r4] 41) = W := ⟨_, rfl⟩
                      rw [hWP, hpb] at hcp
                      have bP : Below V4.heap.size V4 WP := by rw [← hWP]; exact below_box _ _
                      have hpb8 : pb ≠ bd := by have := GV4.out.lt; omega
                      have GP := Lib.hid (GV4.out.by_below bP)
                      have GBP := Lib.hid (gb_tr gbk.out (gb_be GW4.out bP))
                      have FP : Hid (∀ m, m < 3 → ∃ p q : Int, (-9223372036854775808 ≤ p ∧ p ≤ 9223372036854775807) ∧ (-9223372036854775808 ≤ q ∧ q ≤ 9223372036854775807) ∧ WP.cell? ⟨pb, m * 2, none⟩ = some (.int .i64 p) ∧ WP.cell? ⟨pb, m * 2 + 1, none⟩ = some (.int .i64 q)) := fun m hm => by
                        rcases (show m = 0 ∨ m = 1 ∨ m = 2 by omega) with rfl | rfl | rfl
                        · exact ⟨a, b, ⟨a0, a1⟩, ⟨b0, b1⟩, (cell_at hcp 0).1, (cell_at hcp 1).1⟩
                        · exact ⟨r1, r2, by omega, by omega, (cell_at hcp 2).1, (cell_at hcp 3).1⟩
                        · exact ⟨r3, r4, by omega, by omega, (cell_at hcp 4).1, (cell_at hcp 5).1⟩
                      have CP : Hid (WP.cell? ⟨gx, 0, none⟩ = some (.slice xa xN xc) ∧ WP.cell? ⟨gx, 1, none⟩ = some (.slice xb xM xd)) := ⟨gb_cell CS.out.1 GBP.out hgx8, gb_cell CS.out.2 GBP.out hgx8⟩
                      have NFQ := Lib.hid (NFS.out.keep2 GBP.out)
                      have GB9 := Lib.hid (gb_tr GBS.out GBP.out)
                      clear hcp bP r10 r11 r20 r21 r30 r31 r40 r41
                      go_wp2_with fail
                      clear hWP hpb
                      go_loopw [129] (fun i wr => ∃ m : Nat, m ≤ 3 ∧ i = .int .i64 m ∧ Hid (WP.grownBy wr (some bd)) ∧ Hid (Game W0 wr bd la len cap)) (fun i _ => 3 - (intOf i).toNat)
                      case atStart => exact ⟨0, Nat.zero_le _, rfl, gb_refl _ _, GP⟩
                      case round =>
                        clear GP
                        obtain ⟨m, hm3, rfl, gb4, gm4⟩ := hrel
                        by_cases hm : m < 3
                        · obtain ⟨p, q, ⟨hp0, hp1⟩, ⟨hq0, hq1⟩, y0, y1⟩ := FP.out m hm
                          have y0 := gb_cell y0 gb4.out hpb8
                          have y1 := gb_cell y1 gb4.out hpb8
                          have NTp := NtAt.new wr (.int .i64 p) (.int .i64 q) 41
                          have bA := below_box wr (.cells #[.int .i64 p, .int .i64 q] 41)
                          obtain ⟨gp, hgp⟩ : ∃ x, wr.heap.size = x := ⟨_, rfl⟩
                          obtain ⟨WA4, hWA4⟩ : ∃ W, wr.alloc (.cells #[.int .i64 p, .int .i64 q] 41) = W := ⟨_, rfl⟩
                          rw [hWA4] at NTp bA
                          rw [hgp] at NTp
                          have hgp8 : gp ≠ bd := by have := gm4.out.lt; omega
                          have gA4 := gb_be (gb_refl wr (some bd)) bA
                          have gmA := gm4.out.by_below bA
                          have NFP := Lib.hid (NFQ.out.keep2 (gb_tr gb4.out gA4))
                          have q0 := gb_cell CP.out.1 (gb_tr gb4.out gA4) hgx8
                          have q1 := gb_cell CP.out.2 (gb_tr gb4.out gA4) hgx8
                          have gbP := gb_tr (gb_tr GB9.out gb4.out) gA4
                          obtain ⟨s0, s1, -⟩ := NTp
                          have gr0 := gb_refl WA4 (some bd)
                          obtain ⟨L, hL⟩ : ∃ L, (atR xns xds p).length = L := ⟨_, rfl⟩
                          have AL := Lib.hid hL
                          have hL64 : L ≤ 64 := by rw [← hL]; exact atR_short _ _ _
                          obtain ⟨R, hR⟩ : ∃ R, othV xns xds p q = R := ⟨_, rfl⟩
                          have HRR := Lib.hid hR
                          clear bA hL hR
                          go_wp2_with fail
                          clear hWA4 hgp y0 y1
                          go_region_held3 (fun w' => w'.cell? ⟨gx, 0, none⟩ = some (.slice xa xN xc) ∧ w'.cell? ⟨gx, 1, none⟩ = some (.slice xb xM xd) ∧ w'.cell? ⟨gp, 0, none⟩ = some (.int .i64 p) ∧ w'.cell? ⟨gp, 1, none⟩ = some (.int .i64 q) ∧ Game W0 w' bd la len cap ∧ WA4.grownBy w' (some bd))
                            (first | exact four_drew ⟨q0, q1, s0, s1, gmA, gr0⟩ | exact ⟨q0, q1, s0, s1, gmA, gr0⟩ | exact four_drew (by assumption) | exact four_below (by assumption) hgx8 hgp8 (by assumption) | go_keep)
                            (first
                              | (go_at_call 24; refine (at_is xa xb xN xc xM xd xns xds p _ (H8.out _ (four_game (by assumption)).1) (NFP.out.keep (four_game (by assumption)).2) hp0 hp1).mono ?_; rintro e w5 ⟨v1, rfl, n1, b5⟩)
                              | (go_at_call 25; refine (rat_is xa xb xN xc xM xd xns xds p _ (NFP.out.keep (four_game (by assumption)).2) hp0 hp1).mono ?_; rintro e w5 ⟨v2, rfl, n2, b5⟩; have n1 := AggsAt.below n1 b5)
                              | (go_at_call 23; refine (rints_is (atR xns xds p) _ _ L _ _ _ n1 n2 AL.out (by omega)).mono ?_; rintro e w5 ⟨rfl, b5⟩)
                              | (go_at_call 26; refine (other_is xa xb xN xc xM xd xns xds p q R _ (H8.out _ (four_game (by assumption)).1) (NFP.out.keep (four_game (by assumption)).2) hp0 hp1 HRR.out).mono ?_; rintro e w5 ⟨rfl, b5⟩)
                              | (go_at_call 27; refine (rother_is xa xb xN xc xM xd xns xds p q R _ (NFP.out.keep (four_game (by assumption)).2) hp0 hp1 HRR.out).mono ?_; rintro e w5 ⟨rfl, b5⟩))
                          rename_i hS25
                          have S25 := four_game hS25
                          obtain ⟨fa, hfa⟩ : ∃ x, w5.heap.size = x := ⟨_, rfl⟩
                          have hcf := heap_alloc_new w5 (.cells #[.slice ua ul uc, .slice (some ⟨g + 1, 0, none⟩) M M] 27)
                          obtain ⟨WF, hWF⟩ : ∃ W, w5.alloc (.cells #[.slice ua ul uc, .slice (some ⟨g + 1, 0, none⟩) M M] 27) = W := ⟨_, rfl⟩
                          rw [hWF, hfa] at hcf
                          have bF : Below w5.heap.size w5 WF := by rw [← hWF]; exact below_box _ _
                          have hfb : fa ≠ bd := by have := S25.1.lt; omega
                          have gF := gb_be S25.2 bF
                          have GF := Lib.hid (S25.1.by_below bF)
                          have GBF := Lib.hid (gb_tr gbP gF)
                          have FF : Hid (∀ k, k < 2 → ∃ xu xl xc2 xus, WF.cell? ⟨fa, k, none⟩ = some (.slice xu xl xc2) ∧ (∀ W, WF.grownBy W (some bd) → RIn encB 1 W xu xus) ∧ xus.length = xl ∧ xl ≤ maxLen) := fun k hk => by
                            rcases (show k = 0 ∨ k = 1 by omega) with rfl | rfl
                            · exact ⟨ua, ul, uc, us, (cell_at hcf 0).1, fun W h => U8.out W (gb_tr GBF.out h), HUL.out, HUM.out⟩
                            · exact ⟨some ⟨g + 1, 0, none⟩, M, M, usL M f, (cell_at hcf 1).1, fun W h => F8.out W (gb_tr GBF.out h), usL_len M f, by unfold maxLen; omega⟩
                          have NFF := Lib.hid (NFP.out.keep2 gF)
                          have CF : Hid (WF.cell? ⟨gx, 0, none⟩ = some (.slice xa xN xc) ∧ WF.cell? ⟨gx, 1, none⟩ = some (.slice xb xM xd) ∧ WF.cell? ⟨gp, 0, none⟩ = some (.int .i64 p) ∧ WF.cell? ⟨gp, 1, none⟩ = some (.int .i64 q)) := by
                            have := four_below hS25 hgx8 hgp8 bF
                            exact ⟨this.1, this.2.1, this.2.2.1, this.2.2.2.1⟩
                          have GPF := Lib.hid gF
                          clear hcf bF gF S25 hS25
                          go_wp2_with fail
                          clear hWF hfa
                          go_loopw [162] (fun i wr => ∃ k : Nat, k ≤ 2 ∧ i = .int .i64 k ∧ Hid (WF.grownBy wr (some bd)) ∧ Hid (Game W0 wr bd la len cap)) (fun i _ => 2 - (intOf i).toNat)
                          case atStart => exact ⟨0, Nat.zero_le _, rfl, gb_refl _ _, GF⟩
                          case round =>
                            clear GF
                            obtain ⟨kk, hk2, rfl, gbk, gmk⟩ := hrel
                            by_cases hk : kk < 2
                            · obtain ⟨xu, xl, xc2, xus, z0, zr, zl, zm⟩ := FF.out kk hk
                              have z0 := gb_cell z0 gbk.out hfb
                              have ZL := Lib.hid zl
                              have ZM := Lib.hid zm
                              have c0 := gb_cell CF.out.1 gbk.out hgx8
                              have c1 := gb_cell CF.out.2.1 gbk.out hgx8
                              have c2 := gb_cell CF.out.2.2.1 gbk.out hgp8
                              have c3 := gb_cell CF.out.2.2.2 gbk.out hgp8
                              have ZR := Lib.hid zr
                              have WAY := Lib.hid (way_is xa xb xu xN xc xM xd xl xc2 xns xds xus p q wr (H8.out _ gmk.out) (NFF.out.keep gbk.out) (zr _ gbk.out) zl zm hp0 hp1 hq0 hq1)
                              clear zl zm zr
                              go_wp2_with fail
                              refine WAY.out.mono ?_; rintro e v6 ⟨v1, ys, ok, er, rfl, nu1, b6, wi1⟩
                              have gb6 := gb_be gbk.out b6
                              have gm6 := gmk.out.by_below b6
                              have c0 := gb_cell CF.out.1 gb6 hgx8
                              have c1 := gb_cell CF.out.2.1 gb6 hgx8
                              have c2 := gb_cell CF.out.2.2.1 gb6 hgp8
                              have c3 := gb_cell CF.out.2.2.2 gb6 hgp8
                              have NU1 := Lib.hid nu1
                              have WI1 := Lib.hid wi1
                              have GB6 := Lib.hid gb6
                              have GM6 := Lib.hid gm6
                              have RWAY := Lib.hid (rway_is xa xb xu xN xc xM xd xl xc2 xns xds xus p q v6 (NFF.out.keep gb6) (ZR.out _ gb6) ZL.out ZM.out hp0 hp1 hq0 hq1)
                              clear nu1 wi1 gb6 gm6 b6 z0
                              go_wp2_with fail
                              refine RWAY.out.mono ?_; rintro e v7 ⟨v2, ys2, ok2, er2, rfl, nu2, b7, wi2⟩
                              obtain ⟨rfl, rfl, rfl⟩ := WI1.out.one wi2
                              have NU2 := Lib.hid nu2
                              have NU3 := Lib.hid (AggsAt.below NU1.out b7)
                              have GB7 := Lib.hid (gb_be GB6.out b7)
                              have GM7 := Lib.hid (GM6.out.by_below b7)
                              have SH := Lib.hid WI1.out.short
                              clear nu2 b7 wi2 c0 c1 c2 c3
                              go_wp2_with fail
                              refine (rints_is ys v1 v2 _ _ _ _ NU3.out NU2.out rfl (by have := SH.out; omega)).mono ?_; rintro e v8 ⟨rfl, b8⟩
                              have GB8 := Lib.hid (gb_be GB7.out b8)
                              have GM8 := Lib.hid (GM7.out.by_below b8)
                              clear b8
                              go_wp2
                              go_roundw
                              case rel => exact ⟨kk + 1, by omega, by go_num, GB8, GM8⟩
                              case measure => simp [intOf]; omega
                            · obtain rfl : kk = 2 := by omega
                              have GBE := Lib.hid (gb_tr gb4.out (gb_tr gA4 (gb_tr GPF.out gbk.out)))
                              go_wp2
                              go_roundw
                              case rel => exact ⟨m + 1, by omega, by go_num, GBE, gmk⟩
                              case measure => simp [intOf]; omega
                        · obtain rfl : m = 3 := by omega
                          have GBE := Lib.hid (gb_tr gb8.out (gb_tr gA8 (gb_tr gS5 (gb_tr gB5 (gb_tr GBP.out gb4.out)))))
                          go_wp2
                          go_roundw
                          case rel => exact ⟨j + 1, by omega, by go_num, GBE, gm4⟩
                          case measure => simp [intOf]; omega
                · obtain rfl : j = 3 := by omega
                  have H9 := Lib.hid (H8.out _ gm8.out)
                  have B9 := Lib.hid (B0.out.trans (gm8.out.below.mono B0.out.size))
                  go_wp2_with fail
                  refine (mod9_is kind _ k0 k1).mono ?_; rintro e w' ⟨⟨r, rfl, r0, r1⟩, rfl⟩
                  have hwr : IntKind.i64.wrap (r - 1) = r - 1 := by rw [IntKind.wrap_i64]; omega
                  have hck := heap_alloc_new wr (.cells #[.int .i64 kind, .int .i64 (r - 1)] 3)
                  obtain ⟨kb, hkb⟩ : ∃ x, wr.heap.size = x := ⟨_, rfl⟩
                  obtain ⟨WK, hWK⟩ : ∃ W, wr.alloc (.cells #[.int .i64 kind, .int .i64 (r - 1)] 3) = W := ⟨_, rfl⟩
                  rw [hWK, hkb] at hck
                  have BK : Below wr.heap.size wr WK := by rw [← hWK]; exact below_box _ _
                  have BKH := Lib.hid BK
                  have FK : Hid (∀ k, k < 2 → ∃ t : Int, WK.cell? ⟨kb, k, none⟩ = some (.int .i64 t)) := fun k hk => by
                    rcases (show k = 0 ∨ k = 1 by omega) with rfl | rfl
                    · exact ⟨kind, (cell_at hck 0).1⟩
                    · exact ⟨r - 1, (cell_at hck 1).1⟩
                  have HKL : Hid (kb < WK.heap.size) := lt_of_block hck
                  clear hck BK
                  go_wp2_with fail
                  clear hWK hkb
                  go_loopw [211] (fun i wk => ∃ k : Nat, k ≤ 2 ∧ i = .int .i64 k ∧ wk = WK) (fun i _ => 2 - (intOf i).toNat)
                  case atStart => exact ⟨0, Nat.zero_le _, rfl, rfl⟩
                  case round =>
                    obtain ⟨k, hk2, rfl, rfl⟩ := hrel
                    by_cases hk : k < 2
                    · obtain ⟨t, ht⟩ := FK.out k hk
                      go_wp2_with fail
                      refine (joins_is t _ rfl _).mono ?_; rintro e w' ⟨rfl, rfl⟩
                      go_wp2_with fail
                      refine (rjoins_is t _ rfl _).mono ?_; rintro e w' ⟨rfl, rfl⟩
                      go_wp2_with fail
                      refine (gap_is t _).mono ?_; rintro e w' ⟨rfl, rfl⟩
                      go_wp2_with fail
                      refine (rgap_is t _).mono ?_; rintro e w' ⟨rfl, rfl⟩
                      go_wp2_with fail
                      refine (oper_is t _).mono ?_; rintro e w' ⟨rfl, rfl⟩
                      go_wp2_with fail
                      refine (roper_is t _).mono ?_; rintro e w' ⟨rfl, rfl⟩
                      go_wp2
                      go_roundw
                      case rel => exact ⟨k + 1, by omega, by go_num, trivial⟩
                      case measure => simp [intOf]; omega
                    · obtain rfl : k = 2 := by omega
                      go_wp2_with fail
                      refine (awake_is _ (H9.out.below BKH.out)).mono ?_; rintro e w4 ⟨rfl, b4⟩
                      have BZ := Lib.hid ((B9.out.trans (BKH.out.mono B9.out.size)).trans (b4.mono (Nat.le_trans B9.out.size BKH.out.size)))
                      clear b4
                      go_wp2
                      go_ret
                      exact ⟨rfl, BZ.out⟩
        · have t6 : decide ((200 : Int) < (ul : Int)) = true := decide_eq_true (by omega)
          clear h4 h5 h6
          go_wp2_with fail
          refine (awake_is _ (H.out.below B0.out)).mono ?_; rintro e w4 ⟨rfl, b4⟩
          have BZ := Lib.hid (B0.out.trans (b4.mono B0.out.size))
          clear b4
          go_wp2
          go_ret
          exact ⟨rfl, BZ.out⟩
      · have t5 : decide ((100 : Int) < (s.size : Int)) = true := decide_eq_true (by omega)
        clear h4 h5
        go_wp2_with fail
        refine (awake_is _ (H.out.below B0.out)).mono ?_; rintro e w4 ⟨rfl, b4⟩
        have BZ := Lib.hid (B0.out.trans (b4.mono B0.out.size))
        clear b4
        go_wp2
        go_ret
        exact ⟨rfl, BZ.out⟩
  · have t1 : decide ((len : Int) ≤ 400) = false := decide_eq_false (by omega)
    clear h4 LI
    go_enter Tryd.func3, Tryd.ntmps3
    go_wp2_with fail
    refine (few_any _ _ _ _ hl).mono ?_; rintro e w' ⟨rfl, rfl⟩
    go_wp2_with fail
    refine (awake_is _ (H.out.below BX.out)).mono ?_; rintro e w4 ⟨rfl, b4⟩
    have BZ := Lib.hid (BX.out.trans (b4.mono BX.out.size))
    clear b4
    go_wp2
    go_ret
    exact ⟨rfl, BZ.out⟩
end Go.Proofs.YtleggojgcaefdaaDoor.net
