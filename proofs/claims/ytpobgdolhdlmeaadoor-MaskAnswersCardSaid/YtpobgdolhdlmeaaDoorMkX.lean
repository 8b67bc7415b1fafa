/- For every list of numbers, lists a and b and network MaskAnswers returns true: the program's functions on masks say what the reference says. Condition: the tables 'classes' and 'flags' hold what the program's text lays (the card ties that). -/
import Derived.Test.YtpobgdolhdlmeaaDoorMkU
import Derived.Test.YtpobgdolhdlmeaaDoorMkT
import Derived.Test.YtpobgdolhdlmeaaDoorMkS
import Derived.Test.YtpobgdolhdlmeaaDoorMkL
import Derived.Test.YtpobgdolhdlmeaaDoorNtL
import Derived.Test.YtpobgdolhdlmeaaDoorNtNa
namespace Go.Proofs.YtpobgdolhdlmeaaDoor.msk
open Go.RowKit lex aggs kit net deck

theorem masks_z {w0 w : World} {la : Option Addr} {len cap bd : Nat} {zs : List Int} (gm : Game w0 w bd la len cap) (hr : IsRow .i64 w0 la len cap zs) (a b : Option Addr) (N c M d : Nat) (ns : List Nd) (ds : List Dv) (h : NF w bd a b N c M d ns ds) (hM : M ≤ 64) (hM1 : 1 ≤ M) (z : Int) (hz : 0 ≤ z) (hz2 : z ≤ 64) :
    Calls Tryd.prog 12 #[.pointer (some ⟨bd, 0, none⟩), .agg #[.slice a N c, .slice b M d], .int .i64 z] w (MkPost w0 w la len cap bd M z.toNat) := by
  obtain ⟨m, rfl⟩ : ∃ m : Nat, z = m := ⟨z.toNat, by omega⟩
  exact masks_is gm hr a b N c M d ns ds h hM hM1 m (by omega)
theorem Kept.lin {W : World} {bd : Nat} {a : Option Addr} {N c : Nat} {xs : List Int} (h : Kept W bd a N c xs) : LIn W a N c xs := h.1
theorem kept_nil (W : World) (bd : Nat) : Kept W bd none 0 0 [] := ⟨⟨rfl, Nat.le_refl _, Nat.zero_le _, .inl rfl, fun _ => rfl⟩, fun _ h => absurd h (Nat.lt_irrefl 0)⟩
theorem kept_row {w W : World} {bd : Nat} {a : Option Addr} {N c : Nat} {xs : List Int} (h : LIn w a N c xs) (hb : Below w.heap.size w W) (hbd : w.heap.size ≤ bd) : Kept W bd a N c xs := by
  refine ⟨h.below hb, fun p hp hq => ?_⟩
  obtain ⟨b, off, e, hlt, _⟩ := h.rin.some (by rw [h.len]; exact hp)
  rw [hq] at e
  injection e with e
  rw [e]; show b ≠ bd; omega
/-- a block of slice values -/
def VBlk (W : World) (g : Nat) (vs : List Value) : Prop := ∃ T, W.heap[g]? = some (.cells vs.toArray T (0, 0))
theorem VBlk.new (w : World) (vs : List Value) (C : Array Value) (hC : C = vs.toArray) (T : Nat) : VBlk (w.alloc (.cells C T)) w.heap.size vs := by subst hC; exact ⟨T, heap_alloc_new w _⟩
theorem VBlk.far {W W' : World} {g bd : Nat} {vs : List Value} (h : VBlk W g vs) (hg : W.grownBy W' (some bd)) (hne : g ≠ bd) : VBlk W' g vs := by
  obtain ⟨T, h⟩ := h
  exact ⟨T, by rw [hg.block g (lt_of_block h) (fun e => hne (by injection e))]; exact h⟩
theorem VBlk.get {W : World} {g : Nat} {vs : List Value} (h : VBlk W g vs) {j : Nat} {v : Value} (hj : vs[j]? = some v) : W.cell? ⟨g, j, none⟩ = some v := by
  obtain ⟨T, h⟩ := h
  simp [World.cell?, h, hj]
/-- what an entry of such a block is -/
structure Ent where
  a : Option Addr
  L : Nat
  c : Nat
  xs : List Int
def Ent.val (e : Ent) : Value := .slice e.a e.L e.c
def Ent.ok (W : World) (bd : Nat) (e : Ent) : Prop := Kept W bd e.a e.L e.c e.xs ∧ e.L ≤ 64
theorem lin6 (w : World) (C : Array Value) (zs : List Int) (hC : C.toList = zs.map (fun z => Value.int .i64 z)) (T n : Nat) (hn : zs.length = n) (hm : n ≤ maxLen) : LIn (w.alloc (.cells C T)) (some ⟨w.heap.size, 0, none⟩) n n zs := by
  refine ⟨hn, Nat.le_refl _, hm, .inr ⟨_, 0, rfl, by simp, fun i u hu => ?_⟩, fun h => by cases h⟩
  have e : (w.alloc (.cells C T)).heap[w.heap.size]? = some (.cells C T (0, 0)) := heap_alloc_new w _
  have hf : flat encI zs = zs.map (fun z => Value.int .i64 z) := by
    clear hC hu hn
    induction zs with
    | nil => rfl
    | cons z zs ih => rw [flat_cons, List.map_cons, ih]; rfl
  rw [hf, ← hC] at hu
  rw [Nat.zero_add]
  simp only [World.cell?, e]
  simpa using hu
theorem nf_raw {w W : World} {bd : Nat} {a b : Option Addr} {N c M d : Nat} {ns : List Nd} {ds : List Dv} (h : NetIn w a b N c M d ns ds) (hb : Below w.heap.size w W) (hbd : w.heap.size ≤ bd) : NF W bd a b N c M d ns ds := by
  refine ⟨h.below hb, fun p hp => ?_, fun p hp => ?_⟩
  · rcases h.nin with ⟨e, _⟩ | ⟨g, o, e, hl, _⟩
    · rw [e] at hp; cases hp
    · rw [e] at hp; cases hp; show g ≠ bd; omega
  · rcases h.din with ⟨e, _⟩ | ⟨g, o, e, hl, _⟩
    · rw [e] at hp; cases hp
    · rw [e] at hp; cases hp; show g ≠ bd; omega
set_option maxRecDepth 100000 in
set_option maxHeartbeats 32000000 in
theorem answers_walk (la : Option Addr) (len cap : Nat) (zs : List Int) (aa : Option Addr) (al ac : Nat) (az : List Int) (ba : Option Addr) (bl bc : Nat) (bz : List Int) (ra rb : Option Addr) (RN rc RM rd : Nat) (rns : List Nd) (rds : List Dv) (w : World)
    (hr : IsRow .i64 w la len cap zs) (ha : IsRow .i64 w aa al ac az) (hb : IsRow .i64 w ba bl bc bz) (hraw : NetIn w ra rb RN rc RM rd rns rds) (h : STabs w) :
    Calls Tryd.prog 3 #[.slice la len cap, .slice aa al ac, .slice ba bl bc, .agg #[.slice ra RN rc, .slice rb RM rd]] w fun e w' => e = .returned (.bool true) ∧ Below w.heap.size w w' := by
  have hl : len ≤ 9223372036854775807 := by
    rcases hr with ⟨_, h, _⟩ | ⟨_, _, h1, h2, _⟩
    · omega
    · unfold maxLen at h2; omega
  have H := Lib.hid h
  have HRw := Lib.hid hr
  have RAW := Lib.hid hraw
  have LA := Lib.hid (row_lin ha).1
  have LB := Lib.hid (row_lin hb).1
  have am1 := LA.out.cap
  have am2 := LA.out.max
  have bm1 := LB.out.cap
  have bm2 := LB.out.max
  unfold maxLen at am2 bm2
  have bx := below_box w (.cells #[.slice ra RN rc, .slice rb RM rd] 26)
  have BX := Lib.hid bx
  have NTX := Lib.hid (NtAt.new w (.slice ra RN rc) (.slice rb RM rd) 26)
  have LI := Lib.hid (light_is ra rb RN rc RM rd rns rds _ (hraw.below bx))
  have n0 := NTX.out.1
  have n1 := NTX.out.2.1
  clear h hr ha hb hraw bx
  by_cases h4 : 400 < len
  · have t1 : decide ((len : Int) ≤ 400) = false := decide_eq_false (by omega)
    go_enter Tryd.func3, Tryd.ntmps3
    go_wp2_with fail
    refine (few_any _ _ _ _ hl).mono ?_; rintro e w' ⟨rfl, rfl⟩
    go_wp2_with fail
    refine (awake_is _ (H.out.below BX.out).flg).mono ?_; rintro e w4 ⟨rfl, b4⟩
    have BZ := Lib.hid (BX.out.trans (b4.mono (by simp)))
    clear b4 n0 n1
    go_wp2
    go_ret
    exact ⟨rfl, BZ.out⟩
  have t1 : decide ((len : Int) ≤ 400) = true := decide_eq_true (by omega)
  by_cases h5 : 12 < al
  · have t2 : decide ((12 : Int) < (al : Int)) = true := decide_eq_true (by omega)
    go_enter Tryd.func3, Tryd.ntmps3
    go_wp2_with fail
    refine (few_any _ _ _ _ hl).mono ?_; rintro e w' ⟨rfl, rfl⟩
    go_wp2_with fail
    refine (awake_is _ (H.out.below BX.out).flg).mono ?_; rintro e w4 ⟨rfl, b4⟩
    have BZ := Lib.hid (BX.out.trans (b4.mono (by simp)))
    clear b4 n0 n1
    go_wp2
    go_ret
    exact ⟨rfl, BZ.out⟩
  have t2 : decide ((12 : Int) < (al : Int)) = false := decide_eq_false (by omega)
  by_cases h6 : 12 < bl
  · have t3 : decide ((12 : Int) < (bl : Int)) = true := decide_eq_true (by omega)
    go_enter Tryd.func3, Tryd.ntmps3
    go_wp2_with fail
    refine (few_any _ _ _ _ hl).mono ?_; rintro e w' ⟨rfl, rfl⟩
    go_wp2_with fail
    refine (awake_is _ (H.out.below BX.out).flg).mono ?_; rintro e w4 ⟨rfl, b4⟩
    have BZ := Lib.hid (BX.out.trans (b4.mono (by simp)))
    clear b4 n0 n1
    go_wp2
    go_ret
    exact ⟨rfl, BZ.out⟩
  have t3 : decide ((12 : Int) < (bl : Int)) = false := decide_eq_false (by omega)
  go_enter Tryd.func3, Tryd.ntmps3
  go_wp2_with fail
  refine (few_any _ _ _ _ hl).mono ?_; rintro e w' ⟨rfl, rfl⟩
  go_wp2_with fail
  refine LI.out.mono ?_; rintro e W0 ⟨⟨r, rfl⟩, b0'⟩
  have B0 := Lib.hid (BX.out.trans (b0'.mono BX.out.size))
  have NT0 := Lib.hid (NTX.out.below b0' NTX.out.2.2)
  clear b0' LI NTX n0 n1
  cases r
  · go_wp2_with fail
    refine (awake_is _ (H.out.below B0.out).flg).mono ?_; rintro e w4 ⟨rfl, b4⟩
    have BZ := Lib.hid (B0.out.trans (b4.mono B0.out.size))
    clear b4
    go_wp2
    go_ret
    exact ⟨rfl, BZ.out⟩
  have H0 := Lib.hid (H.out.below B0.out)
  have HR := Lib.hid (HRw.out.below B0.out)
  have RAW0 := Lib.hid (RAW.out.below B0.out)
  have LA0 := Lib.hid (LA.out.below B0.out)
  have LB0 := Lib.hid (LB.out.below B0.out)
  clear H HRw RAW LA LB
  obtain ⟨x0, hx0⟩ : ∃ x, w.heap.size = x := ⟨_, rfl⟩
  rw [hx0] at NT0
  have hxl := NT0.out.2.2
  clear h4 t1 hl
  go_wp2_with fail
  clear hx0
  refine (newg_any _ _ _ _).mono ?_; rintro e w1 ⟨rfl, g1⟩
  have hbw := g1.lt
  obtain ⟨bd, hbd⟩ : ∃ b, W0.heap.size = b := ⟨_, rfl⟩
  have HB := Lib.hid hbd
  rw [hbd] at hbw g1 hxl ⊢
  clear hbd
  go_wp2_with fail
  refine (network_is (nodes := 6) (devices := 9) g1 HR.out (by decide) (by decide) (by decide) (by decide)).mono ?_
  rintro e W2 ⟨vn, vd, ns, ds, rfl, g2, rn, rdd, gn, gd, q1, q2, d1, d2⟩
  obtain ⟨an, cn, ad, cd, rfl, rfl, ni, z1, z2⟩ := rows_net rn rdd (by omega) gn gd hbw
  obtain ⟨N, hN⟩ : ∃ N, ns.length = N := ⟨_, rfl⟩
  obtain ⟨M, hM⟩ : ∃ M, ds.length = M := ⟨_, rfl⟩
  rw [hN] at ni ⊢
  rw [hM] at d1 d2 ni ⊢
  have bx2 := below_box W2 (.cells #[.slice an N cn, .slice ad M cd] 26)
  have NT := Lib.hid (NtAt.new W2 (.slice an N cn) (.slice ad M cd) 26)
  have G3 := Lib.hid (g2.alloc (.cells #[.slice an N cn, .slice ad M cd] 26))
  have NF3 : Hid (NF (W2.alloc (.cells #[.slice an N cn, .slice ad M cd] 26)) bd an ad N cn M cd ns ds) := ⟨ni.below bx2, z1, z2⟩
  have hb2 := g2.lt
  obtain ⟨g, hg⟩ : ∃ g, W2.heap.size = g := ⟨_, rfl⟩
  rw [hg] at NT hb2
  obtain ⟨W3, hW3⟩ : ∃ W3, W2.alloc (.cells #[.slice an N cn, .slice ad M cd] 26) = W3 := ⟨_, rfl⟩
  have hs3 : bd < W3.heap.size := by rw [← hW3]; simp; omega
  rw [hW3] at NT G3 NF3
  have hgb : g ≠ bd := by omega
  have hxb : x0 ≠ bd := by omega
  have NFR := Lib.hid (nf_raw RAW0.out G3.out.below (Nat.le_of_eq HB.out))
  have KAA := Lib.hid (kept_row LA0.out G3.out.below (Nat.le_of_eq HB.out))
  have KBB := Lib.hid (kept_row LB0.out G3.out.below (Nat.le_of_eq HB.out))
  have X0 := Lib.hid ((G3.out.below.cell (p := ⟨x0, 0, none⟩) (by rw [HB.out]; exact hxl)).trans NT0.out.1)
  have X1 := Lib.hid ((G3.out.below.cell (p := ⟨x0, 1, none⟩) (by rw [HB.out]; exact hxl)).trans NT0.out.2.1)
  have k1 := NT.out.1
  have k2 := NT.out.2.1
  have gm0 := G3.out
  have gr0 := gb_refl W3 (some bd)
  clear rn rdd gn gd hN hM ni z1 z2 g1 g2 hbw bx2 q1 q2 hb2 RAW0 LA0 LB0 NT0 hxl
  go_wp2_with fail
  (try rw [hW3])
  clear hW3 hg
  go_region_held3 (fun w' => w'.cell? ⟨g, 0, none⟩ = some (.slice an N cn) ∧ w'.cell? ⟨g, 1, none⟩ = some (.slice ad M cd) ∧ Game W0 w' bd la len cap ∧ W3.grownBy w' (some bd))
    (first | exact two_drew ⟨k1, k2, gm0, gr0⟩ | exact ⟨k1, k2, gm0, gr0⟩ | exact two_drew (by assumption) | exact two_keep (by assumption) hgb (by assumption) (by assumption) | exact two_drew (two_keep (by assumption) hgb (by assumption) (by assumption)) | go_keep)
    (first
      | (go_at_call 12; refine (masks_z (two_game (by assumption)).1 HR.out an ad N cn M cd ns ds (NF3.out.keep2 (two_game (by assumption)).2) (by omega) (by omega) _ (by decide) (by decide)).mono ?_; rintro e w7 ⟨v, S, rfl, own, hS, hSm, hSu, gm7, gb7⟩))
  rename_i wA vA A ownA hA hAm hAu gmA gbA hHeld
  obtain ⟨aA, cA, rfl, kA⟩ := OwnI.kept ownA (show bd < W3.heap.size from hs3)
  obtain ⟨aB, cB, rfl, kB⟩ := OwnI.kept own (Nat.lt_of_lt_of_le (show bd < W3.heap.size from hs3) gbA.size)
  rw [hA] at kA ⊢
  rw [hS] at kB ⊢
  have KA := Lib.hid (kA.far gb7)
  have KB := Lib.hid kB
  have GM := Lib.hid hHeld.2.2.1
  have WG := Lib.hid hHeld.2.2.2
  have C0 := Lib.hid NT.out.1
  have C1 := Lib.hid NT.out.2.1
  have h64 : M ≤ 64 := by omega
  clear kA kB ownA own hA hS hAm hSm hAu hSu gmA gbA gm7 gb7 hHeld k1 k2 gm0 gr0 NT hs3 G3
  go_wp2_with fail
  refine (within_is GM.out HR.out aA M cA A KA.out h64).mono ?_
  rintro e w8 ⟨v, T, rfl, own, hT, gm8, gb8⟩
  obtain ⟨aS, cS, rfl, kS⟩ := OwnI.kept own GM.out.lt
  rw [hT] at kS ⊢
  have KS := Lib.hid kS
  have GM := Lib.hid gm8
  have WG := Lib.hid (gb_tr WG.out gb8)
  have KA := Lib.hid (KA.out.far gb8)
  have KB := Lib.hid (KB.out.far gb8)
  clear own kS hT gm8 gb8
  have VL := Lib.hid (lin6 w8 #[.int .i64 0, .int .i64 1, .int .i64 2, .int .i64 3, .int .i64 4, .int .i64 (-1)] [0, 1, 2, 3, 4, -1] rfl 3 6 rfl (by decide))
  have b9 := below_box w8 (.cells #[.int .i64 0, .int .i64 1, .int .i64 2, .int .i64 3, .int .i64 4, .int .i64 (-1)] 3)
  have KV : Hid (Kept (w8.alloc (.cells #[.int .i64 0, .int .i64 1, .int .i64 2, .int .i64 3, .int .i64 4, .int .i64 (-1)] 3)) bd (some ⟨w8.heap.size, 0, none⟩) 6 6 [0, 1, 2, 3, 4, -1]) := ⟨VL.out, fun p _ hq => by cases hq; exact Nat.ne_of_gt GM.out.lt⟩
  have GM := Lib.hid (GM.out.by_below b9)
  have WG := Lib.hid (gb_be WG.out b9)
  have KA := Lib.hid (KA.out.below b9)
  have KB := Lib.hid (KB.out.below b9)
  have KS := Lib.hid (KS.out.below b9)
  clear b9 VL
  go_wp2_with fail
  refine (bent_is GM.out HR.out aA (some ⟨w8.heap.size, 0, none⟩) M cA 6 6 A [0, 1, 2, 3, 4, -1] KA.out KV.out h64 (by omega) (by decide) (by decide)).mono ?_
  rintro e w9 ⟨aE, LE, cE, E5, rfl, kE, hLE, gm9, gb9⟩
  have KE := Lib.hid kE
  have GM := Lib.hid gm9
  have WG := Lib.hid (gb_tr WG.out gb9)
  have KA := Lib.hid (KA.out.far gb9)
  have KB := Lib.hid (KB.out.far gb9)
  have KS := Lib.hid (KS.out.far gb9)
  have KAA := Lib.hid (KAA.out.far WG.out)
  have KBB := Lib.hid (KBB.out.far WG.out)
  clear kE gm9 gb9 KV
  have b10 := below_box w9 (.cells #[.slice aa al ac, .slice aA M cA, .slice aB M cB, .slice aS M cS, .slice aE LE cE, .slice none 0 0] 22)
  have SIXB := Lib.hid (VBlk.new w9 [.slice aa al ac, .slice aA M cA, .slice aB M cB, .slice aS M cS, .slice aE LE cE, .slice none 0 0] #[.slice aa al ac, .slice aA M cA, .slice aB M cB, .slice aS M cS, .slice aE LE cE, .slice none 0 0] rfl 22)
  have hsix : w9.heap.size ≠ bd := Nat.ne_of_gt GM.out.lt
  have GM := Lib.hid (GM.out.by_below b10)
  have WG := Lib.hid (gb_be WG.out b10)
  have KA := Lib.hid (KA.out.below b10)
  have KB := Lib.hid (KB.out.below b10)
  have KS := Lib.hid (KS.out.below b10)
  have KE := Lib.hid (KE.out.below b10)
  have KAA := Lib.hid (KAA.out.below b10)
  have KBB := Lib.hid (KBB.out.below b10)
  have hal : al ≤ 64 := by omega
  have hbl : bl ≤ 64 := by omega
  have hLE64 : LE ≤ 64 := by omega
  obtain ⟨g6, hg6⟩ : ∃ x, w9.heap.size = x := ⟨_, rfl⟩
  obtain ⟨W7, hW7⟩ : ∃ W7, w9.alloc (.cells #[.slice aa al ac, .slice aA M cA, .slice aB M cB, .slice aS M cS, .slice aE LE cE, .slice none 0 0] 22) = W7 := ⟨_, rfl⟩
  rw [hg6] at SIXB hsix
  rw [hW7] at SIXB GM WG KA KB KS KE KAA KBB
  have SIX : Hid (∀ j, j < 6 → ∃ (x : Option Addr) (L c : Nat) (X : List Int), (∀ W', W7.grownBy W' (some bd) → W'.cell? ⟨g6, j, none⟩ = some (.slice x L c)) ∧ Kept W7 bd x L c X ∧ L ≤ 64) := fun j hj => by
    rcases (show j = 0 ∨ j = 1 ∨ j = 2 ∨ j = 3 ∨ j = 4 ∨ j = 5 by omega) with rfl | rfl | rfl | rfl | rfl | rfl
    · exact ⟨_, _, _, _, fun W' hg => (SIXB.out.far hg hsix).get rfl, KAA.out, hal⟩
    · exact ⟨_, _, _, _, fun W' hg => (SIXB.out.far hg hsix).get rfl, KA.out, h64⟩
    · exact ⟨_, _, _, _, fun W' hg => (SIXB.out.far hg hsix).get rfl, KB.out, h64⟩
    · exact ⟨_, _, _, _, fun W' hg => (SIXB.out.far hg hsix).get rfl, KS.out, h64⟩
    · exact ⟨_, _, _, _, fun W' hg => (SIXB.out.far hg hsix).get rfl, KE.out, hLE64⟩
    · exact ⟨_, _, _, _, fun W' hg => (SIXB.out.far hg hsix).get rfl, kept_nil _ _, by decide⟩
  clear b10 SIXB KE KAA hLE hLE64
  go_wp2_with fail
  (try rw [hW7])
  (try rw [hg6])
  clear hW7 hg6
  go_loopw [73] (fun i wr => ∃ j : Nat, j ≤ 6 ∧ i = .int .i64 j ∧ Hid (W7.grownBy wr (some bd)) ∧ Hid (Game W0 wr bd la len cap)) (fun i _ => 6 - (intOf i).toNat)
  case atStart => exact ⟨0, Nat.zero_le _, rfl, gb_refl _ _, GM.out⟩
  case round =>
    clear GM
    obtain ⟨j, hj, rfl, gb, gm⟩ := hrel
    by_cases hj6 : j < 6
    · obtain ⟨ax, Lx, cx, X, hcell, kX, hLx⟩ := SIX.out j hj6
      have c0 := hcell wr gb.out
      have KX := Lib.hid (kX.far gb.out)
      have GM := Lib.hid gm.out
      have WG := Lib.hid (gb_tr WG.out gb.out)
      have WW := Lib.hid gb.out
      have KA := Lib.hid (KA.out.far gb.out)
      have KB := Lib.hid (KB.out.far gb.out)
      have KS := Lib.hid (KS.out.far gb.out)
      have KBB := Lib.hid (KBB.out.far gb.out)
      obtain ⟨V, hV⟩ : ∃ v, countV X = v := ⟨_, rfl⟩
      obtain ⟨E, hE⟩ : ∃ v, countE X = v := ⟨_, rfl⟩
      obtain ⟨LL, hLL⟩ : ∃ l, (if countE X = 0 then allL X else []) = l := ⟨_, rfl⟩
      obtain ⟨LN, hLN⟩ : ∃ l, LL.length = l := ⟨_, rfl⟩
      have HV := Lib.hid hV
      have HE := Lib.hid hE
      have HLL := Lib.hid hLL
      have HLN := Lib.hid hLN
      have hji : (j : Int) < 6 := by omega
      clear hV hE hLL hLN hcell kX gb gm
      go_wp2_with fail
      refine (count_is ax Lx cx X _ (H0.out.below GM.out.below).flg KX.out.1 hLx).mono ?_
      rintro e y1 ⟨rfl, bX⟩
      rw [HV.out, HE.out]
      clear c0
      have GM := Lib.hid (GM.out.by_below bX)
      have WG := Lib.hid (gb_be WG.out bX)
      have WW := Lib.hid (gb_be WW.out bX)
      have KX := Lib.hid (KX.out.below bX)
      have KA := Lib.hid (KA.out.below bX)
      have KB := Lib.hid (KB.out.below bX)
      have KS := Lib.hid (KS.out.below bX)
      have KBB := Lib.hid (KBB.out.below bX)
      clear bX
      go_wp2_with fail
      refine (rcount_is ax Lx cx X _ KX.out.1 hLx).mono ?_
      rintro e y2 ⟨rfl, bX⟩
      rw [HV.out, HE.out]
      have GM := Lib.hid (GM.out.by_below bX)
      have WG := Lib.hid (gb_be WG.out bX)
      have WW := Lib.hid (gb_be WW.out bX)
      have KX := Lib.hid (KX.out.below bX)
      have KA := Lib.hid (KA.out.below bX)
      have KB := Lib.hid (KB.out.below bX)
      have KS := Lib.hid (KS.out.below bX)
      have KBB := Lib.hid (KBB.out.below bX)
      clear bX
      go_wp2_with fail
      refine (all_is ax Lx cx X _ (H0.out.below GM.out.below).flg KX.out.1 hLx).mono ?_
      rintro e y3 ⟨vU, rfl, hvU, bX⟩
      rw [HLL.out] at hvU
      rw [HE.out]
      obtain ⟨au, cu, rfl, hcu1, hcu2⟩ := hvU.length
      rw [HLN.out] at hvU hcu1 ⊢
      have RU := Lib.hid hvU
      have BU := Lib.hid GM.out.lt
      unfold maxLen at hcu2
      clear hvU
      have GM := Lib.hid (GM.out.by_below bX)
      have WG := Lib.hid (gb_be WG.out bX)
      have WW := Lib.hid (gb_be WW.out bX)
      have KX := Lib.hid (KX.out.below bX)
      have KA := Lib.hid (KA.out.below bX)
      have KB := Lib.hid (KB.out.below bX)
      have KS := Lib.hid (KS.out.below bX)
      have KBB := Lib.hid (KBB.out.below bX)
      clear bX
      go_wp2_with fail
      refine (rall_is ax Lx cx X _ KX.out.1 hLx).mono ?_
      rintro e y4 ⟨vR, rfl, hvR, bX⟩
      rw [HLL.out] at hvR
      rw [HE.out]
      obtain ⟨av, cv, rfl, hcv1, hcv2⟩ := hvR.length
      rw [HLN.out] at hvR hcv1 ⊢
      have RV := Lib.hid hvR
      have BV := Lib.hid GM.out.lt
      unfold maxLen at hcv2
      clear hvR
      have GM := Lib.hid (GM.out.by_below bX)
      have WG := Lib.hid (gb_be WG.out bX)
      have WW := Lib.hid (gb_be WW.out bX)
      have KX := Lib.hid (KX.out.below bX)
      have KA := Lib.hid (KA.out.below bX)
      have KB := Lib.hid (KB.out.below bX)
      have KS := Lib.hid (KS.out.below bX)
      have KBB := Lib.hid (KBB.out.below bX)
      have RU := Lib.hid (RU.out.below bX)
      clear bX
      obtain ⟨v1, hv1⟩ : ∃ v, chkM 1 ns ds X = v := ⟨_, rfl⟩
      obtain ⟨v2, hv2⟩ : ∃ v, chkM 2 ns ds X = v := ⟨_, rfl⟩
      obtain ⟨v3, hv3⟩ : ∃ v, chkM 1 rns rds X = v := ⟨_, rfl⟩
      obtain ⟨v4, hv4⟩ : ∃ v, chkM 2 rns rds X = v := ⟨_, rfl⟩
      have R1 := Lib.hid hv1
      have R2 := Lib.hid hv2
      have R3 := Lib.hid hv3
      have R4 := Lib.hid hv4
      have NFn := Lib.hid (NF3.out.keep2 WG.out)
      have NFr := Lib.hid (NFR.out.keep2 WG.out)
      have k1 := WG.out.cell C0.out (by simpa using hgb)
      have k2 := WG.out.cell C1.out (by simpa using hgb)
      have m1 := WG.out.cell X0.out (by simpa using hxb)
      have m2 := WG.out.cell X1.out (by simpa using hxb)
      have gm0 := GM.out
      have gr0 := gb_refl y4 (some bd)
      clear hv1 hv2 hv3 hv4
      go_wp2_with fail
      go_region_held3 (fun w' => w'.cell? ⟨g, 0, none⟩ = some (.slice an N cn) ∧ w'.cell? ⟨g, 1, none⟩ = some (.slice ad M cd) ∧ w'.cell? ⟨x0, 0, none⟩ = some (.slice ra RN rc) ∧ w'.cell? ⟨x0, 1, none⟩ = some (.slice rb RM rd) ∧ Game W0 w' bd la len cap ∧ y4.grownBy w' (some bd))
        (first | exact four_drew ⟨k1, k2, m1, m2, gm0, gr0⟩ | exact ⟨k1, k2, m1, m2, gm0, gr0⟩ | exact four_drew (by assumption) | exact four_below (by assumption) hgb hxb (by assumption) | exact four_drew (four_below (by assumption) hgb hxb (by assumption)) | go_keep)
        (first
          | (go_at_call 19; (with_reducible refine (mCheck_is an ad ax N cn M cd Lx cx ns ds X v1 _ (H0.out.below (four_game (by assumption)).1.below).cls (H0.out.below (four_game (by assumption)).1.below).flg (NFn.out.keep (four_game (by assumption)).2) (Kept.lin (KX.out.far (four_game (by assumption)).2)) R1.out).mono ?_); rintro e w7 ⟨rfl, b7⟩)
          | (go_at_call 19; (with_reducible refine (mCheck_is ra rb ax RN rc RM rd Lx cx rns rds X v3 _ (H0.out.below (four_game (by assumption)).1.below).cls (H0.out.below (four_game (by assumption)).1.below).flg (NFr.out.keep (four_game (by assumption)).2) (Kept.lin (KX.out.far (four_game (by assumption)).2)) R3.out).mono ?_); rintro e w7 ⟨rfl, b7⟩)
          | (go_at_call 21; (with_reducible refine (mState_is an ad ax N cn M cd Lx cx ns ds X v2 _ (H0.out.below (four_game (by assumption)).1.below).cls (H0.out.below (four_game (by assumption)).1.below).flg (NFn.out.keep (four_game (by assumption)).2) (Kept.lin (KX.out.far (four_game (by assumption)).2)) R2.out).mono ?_); rintro e w7 ⟨rfl, b7⟩)
          | (go_at_call 21; (with_reducible refine (mState_is ra rb ax RN rc RM rd Lx cx rns rds X v4 _ (H0.out.below (four_game (by assumption)).1.below).cls (H0.out.below (four_game (by assumption)).1.below).flg (NFr.out.keep (four_game (by assumption)).2) (Kept.lin (KX.out.far (four_game (by assumption)).2)) R4.out).mono ?_); rintro e w7 ⟨rfl, b7⟩)
          | (go_at_call 20; (with_reducible refine (rCheck_is an ad ax N cn M cd Lx cx ns ds X v1 _ (NFn.out.keep (four_game (by assumption)).2) (Kept.lin (KX.out.far (four_game (by assumption)).2)) R1.out).mono ?_); rintro e w7 ⟨rfl, b7⟩)
          | (go_at_call 20; (with_reducible refine (rCheck_is ra rb ax RN rc RM rd Lx cx rns rds X v3 _ (NFr.out.keep (four_game (by assumption)).2) (Kept.lin (KX.out.far (four_game (by assumption)).2)) R3.out).mono ?_); rintro e w7 ⟨rfl, b7⟩)
          | (go_at_call 22; (with_reducible refine (rState_is an ad ax N cn M cd Lx cx ns ds X v2 _ (NFn.out.keep (four_game (by assumption)).2) (Kept.lin (KX.out.far (four_game (by assumption)).2)) R2.out).mono ?_); rintro e w7 ⟨rfl, b7⟩)
          | (go_at_call 22; (with_reducible refine (rState_is ra rb ax RN rc RM rd Lx cx rns rds X v4 _ (NFr.out.keep (four_game (by assumption)).2) (Kept.lin (KX.out.far (four_game (by assumption)).2)) R4.out).mono ?_); rintro e w7 ⟨rfl, b7⟩)
          )
      rename_i hH
      have gbw := (four_game hH).2
      have GM := Lib.hid (four_game hH).1
      have WG := Lib.hid (gb_tr WG.out gbw)
      have WW := Lib.hid (gb_tr WW.out gbw)
      have KX := Lib.hid (KX.out.far gbw)
      have KA := Lib.hid (KA.out.far gbw)
      have KB := Lib.hid (KB.out.far gbw)
      have KS := Lib.hid (KS.out.far gbw)
      have KBB := Lib.hid (KBB.out.far gbw)
      have RU := Lib.hid (RowsI.far RU.out gbw BU.out)
      have RV := Lib.hid (RowsI.far RV.out gbw BV.out)
      clear hH gbw k1 k2 m1 m2 gm0 gr0 R1 R2 R3 R4 NFn NFr b7 hji
      go_wp2
      go_loopw [155] (fun i wr => ∃ k : Nat, k ≤ LN ∧ i = .int .i64 k ∧ Hid (w7.grownBy wr (some bd)) ∧ Hid (Game W0 wr bd la len cap)) (fun i _ => LN - (intOf i).toNat)
      case atStart => exact ⟨0, Nat.zero_le _, rfl, gb_refl _ _, GM.out⟩
      case round =>
        clear GM
        obtain ⟨k, hk, rfl, gb, gm⟩ := hrel
        by_cases hkL : k < LN
        · obtain ⟨gu, bu, du, rfl, hgu, -, ru, lu, pu⟩ := (RowsI.far RU.out gb.out BU.out).get k (by rw [HLN.out]; exact hkL)
          obtain ⟨gv, bv, dv, rfl, hgv, -, rv, lv, pv⟩ := (RowsI.far RV.out gb.out BV.out).get k (by rw [HLN.out]; exact hkL)
          obtain ⟨Y, hY⟩ : ∃ Y, LL[k]'(by rw [HLN.out]; exact hkL) = Y := ⟨_, rfl⟩
          rw [hY] at ru lu rv lv
          obtain ⟨ly, hly⟩ : ∃ l, Y.length = l := ⟨_, rfl⟩
          rw [hly] at ru lu rv lv
          have hgub : gu ≠ bd := by have := BU.out; omega
          have hgvb : gv ≠ bd := by have := BV.out; omega
          have KU : Hid (Kept wr bd bu ly du Y) := ⟨lu, fun p _ hp => by have := pu p hp; have := BU.out; omega⟩
          have KV : Hid (Kept wr bd bv ly dv Y) := ⟨lv, fun p _ hp => by have := pv p hp; have := BV.out; omega⟩
          have hki : (k : Int) < (LN : Int) := by omega
          have hk0 : (0 : Int) ≤ (k : Int) := by omega
          have gm0 := gm.out
          have gr0 := gb_refl wr (some bd)
          clear lu lv pu pv hY hly hgu hgv
          go_wp2_with fail
          go_region_held3 (fun w' => w'.cell? ⟨gu, k, none⟩ = some (.slice bu ly du) ∧ w'.cell? ⟨gv, k, none⟩ = some (.slice bv ly dv) ∧ Game W0 w' bd la len cap ∧ wr.grownBy w' (some bd))
            (first | exact duo_drew ⟨ru, rv, gm0, gr0⟩ | exact ⟨ru, rv, gm0, gr0⟩ | exact duo_drew (by assumption) | exact duo_below (by assumption) hgub hgvb (by assumption) | exact duo_drew (duo_below (by assumption) hgub hgvb (by assumption)) | go_keep)
            (first
              | (go_at_call 23; refine (ints_b bu bv ly du ly dv Y Y true _ (Kept.lin (KU.out.far (duo_game (by assumption)).2)) (Kept.lin (KV.out.far (duo_game (by assumption)).2)) (decide_eq_true rfl)).mono ?_; rintro e w8 ⟨rfl, b8⟩))
          rename_i hS
          have NG := Lib.hid (gb_tr gb.out (duo_game hS).2)
          have NM := Lib.hid (duo_game hS).1
          clear hS gm0 gr0 ru rv KU KV b8
          go_wp2
          go_roundw
          case rel => exact ⟨k + 1, by omega, by go_num, NG, NM⟩
          case measure => simp [intOf]; omega
        · obtain rfl : k = LN := by omega
          have GM := Lib.hid gm.out
          have WG := Lib.hid (gb_tr WG.out gb.out)
          have WW := Lib.hid (gb_tr WW.out gb.out)
          have KX := Lib.hid (KX.out.far gb.out)
          have KA := Lib.hid (KA.out.far gb.out)
          have KB := Lib.hid (KB.out.far gb.out)
          have KS := Lib.hid (KS.out.far gb.out)
          have KBB := Lib.hid (KBB.out.far gb.out)
          clear gb gm RU RV BU BV
          obtain ⟨I1, hI1⟩ : ∃ l, ints (unkL X) = l := ⟨_, rfl⟩
          have HI1 := Lib.hid hI1
          obtain ⟨lI1, hlI1⟩ : ∃ l, I1.length = l := ⟨_, rfl⟩
          have HLI1 := Lib.hid hlI1
          clear hI1 hlI1
          obtain ⟨I2, hI2⟩ : ∃ l, setL 1 X = l := ⟨_, rfl⟩
          have HI2 := Lib.hid hI2
          obtain ⟨lI2, hlI2⟩ : ∃ l, I2.length = l := ⟨_, rfl⟩
          have HLI2 := Lib.hid hlI2
          clear hI2 hlI2
          obtain ⟨I3, hI3⟩ : ∃ l, setL 2 X = l := ⟨_, rfl⟩
          have HI3 := Lib.hid hI3
          obtain ⟨lI3, hlI3⟩ : ∃ l, I3.length = l := ⟨_, rfl⟩
          have HLI3 := Lib.hid hlI3
          clear hI3 hlI3
          go_wp2_with fail
          refine (unknown_is ax Lx cx X _ KX.out.1 hLx).mono ?_
          rintro e y5 ⟨v, rfl, hv, bX⟩
          rw [HI1.out] at hv
          obtain ⟨aPI1, cPI1, rfl, kPI1⟩ := OwnI.kept hv GM.out.lt
          rw [HLI1.out] at kPI1 ⊢
          have PI1 := Lib.hid kPI1
          clear hv kPI1
          have GM := Lib.hid (GM.out.by_below bX)
          have WG := Lib.hid (gb_be WG.out bX)
          have WW := Lib.hid (gb_be WW.out bX)
          have KX := Lib.hid (KX.out.below bX)
          have KA := Lib.hid (KA.out.below bX)
          have KB := Lib.hid (KB.out.below bX)
          have KS := Lib.hid (KS.out.below bX)
          have KBB := Lib.hid (KBB.out.below bX)
          clear bX
          go_wp2_with fail
          refine (runknown_is ax Lx cx X _ KX.out.1 hLx).mono ?_
          rintro e y6 ⟨v, rfl, hv, bX⟩
          rw [HI1.out] at hv
          obtain ⟨aQI1, cQI1, rfl, kQI1⟩ := OwnI.kept hv GM.out.lt
          rw [HLI1.out] at kQI1 ⊢
          have QI1 := Lib.hid kQI1
          clear hv kQI1
          have GM := Lib.hid (GM.out.by_below bX)
          have WG := Lib.hid (gb_be WG.out bX)
          have WW := Lib.hid (gb_be WW.out bX)
          have KX := Lib.hid (KX.out.below bX)
          have KA := Lib.hid (KA.out.below bX)
          have KB := Lib.hid (KB.out.below bX)
          have KS := Lib.hid (KS.out.below bX)
          have KBB := Lib.hid (KBB.out.below bX)
          have PI1 := Lib.hid (PI1.out.below bX)
          clear bX
          go_wp2_with fail
          refine (ints_b aPI1 aQI1 lI1 cPI1 lI1 cQI1 I1 I1 true _ PI1.out.1 QI1.out.1 (decide_eq_true rfl)).mono ?_
          rintro e y7 ⟨rfl, bX⟩
          have GM := Lib.hid (GM.out.by_below bX)
          have WG := Lib.hid (gb_be WG.out bX)
          have WW := Lib.hid (gb_be WW.out bX)
          have KX := Lib.hid (KX.out.below bX)
          have KA := Lib.hid (KA.out.below bX)
          have KB := Lib.hid (KB.out.below bX)
          have KS := Lib.hid (KS.out.below bX)
          have KBB := Lib.hid (KBB.out.below bX)
          have PI1 := Lib.hid (PI1.out.below bX)
          have QI1 := Lib.hid (QI1.out.below bX)
          clear bX
          clear PI1 QI1
          go_wp2_with fail
          refine (lowest_is ax Lx cx X _ KX.out.1 hLx).mono ?_
          rintro e y8 ⟨v, rfl, hv, bX⟩
          rw [HI2.out] at hv
          obtain ⟨aPI2, cPI2, rfl, kPI2⟩ := OwnI.kept hv GM.out.lt
          rw [HLI2.out] at kPI2 ⊢
          have PI2 := Lib.hid kPI2
          clear hv kPI2
          have GM := Lib.hid (GM.out.by_below bX)
          have WG := Lib.hid (gb_be WG.out bX)
          have WW := Lib.hid (gb_be WW.out bX)
          have KX := Lib.hid (KX.out.below bX)
          have KA := Lib.hid (KA.out.below bX)
          have KB := Lib.hid (KB.out.below bX)
          have KS := Lib.hid (KS.out.below bX)
          have KBB := Lib.hid (KBB.out.below bX)
          clear bX
          go_wp2_with fail
          refine (rLowest_is ax Lx cx X _ KX.out.1 hLx).mono ?_
          rintro e y9 ⟨v, rfl, hv, bX⟩
          rw [HI2.out] at hv
          obtain ⟨aQI2, cQI2, rfl, kQI2⟩ := OwnI.kept hv GM.out.lt
          rw [HLI2.out] at kQI2 ⊢
          have QI2 := Lib.hid kQI2
          clear hv kQI2
          have GM := Lib.hid (GM.out.by_below bX)
          have WG := Lib.hid (gb_be WG.out bX)
          have WW := Lib.hid (gb_be WW.out bX)
          have KX := Lib.hid (KX.out.below bX)
          have KA := Lib.hid (KA.out.below bX)
          have KB := Lib.hid (KB.out.below bX)
          have KS := Lib.hid (KS.out.below bX)
          have KBB := Lib.hid (KBB.out.below bX)
          have PI2 := Lib.hid (PI2.out.below bX)
          clear bX
          go_wp2_with fail
          refine (ints_b aPI2 aQI2 lI2 cPI2 lI2 cQI2 I2 I2 true _ PI2.out.1 QI2.out.1 (decide_eq_true rfl)).mono ?_
          rintro e y10 ⟨rfl, bX⟩
          have GM := Lib.hid (GM.out.by_below bX)
          have WG := Lib.hid (gb_be WG.out bX)
          have WW := Lib.hid (gb_be WW.out bX)
          have KX := Lib.hid (KX.out.below bX)
          have KA := Lib.hid (KA.out.below bX)
          have KB := Lib.hid (KB.out.below bX)
          have KS := Lib.hid (KS.out.below bX)
          have KBB := Lib.hid (KBB.out.below bX)
          have PI2 := Lib.hid (PI2.out.below bX)
          have QI2 := Lib.hid (QI2.out.below bX)
          clear bX
          clear PI2 QI2
          go_wp2_with fail
          refine (highest_is ax Lx cx X _ KX.out.1 hLx).mono ?_
          rintro e y11 ⟨v, rfl, hv, bX⟩
          rw [HI3.out] at hv
          obtain ⟨aPI3, cPI3, rfl, kPI3⟩ := OwnI.kept hv GM.out.lt
          rw [HLI3.out] at kPI3 ⊢
          have PI3 := Lib.hid kPI3
          clear hv kPI3
          have GM := Lib.hid (GM.out.by_below bX)
          have WG := Lib.hid (gb_be WG.out bX)
          have WW := Lib.hid (gb_be WW.out bX)
          have KX := Lib.hid (KX.out.below bX)
          have KA := Lib.hid (KA.out.below bX)
          have KB := Lib.hid (KB.out.below bX)
          have KS := Lib.hid (KS.out.below bX)
          have KBB := Lib.hid (KBB.out.below bX)
          clear bX
          go_wp2_with fail
          refine (rHighest_is ax Lx cx X _ KX.out.1 hLx).mono ?_
          rintro e y12 ⟨v, rfl, hv, bX⟩
          rw [HI3.out] at hv
          obtain ⟨aQI3, cQI3, rfl, kQI3⟩ := OwnI.kept hv GM.out.lt
          rw [HLI3.out] at kQI3 ⊢
          have QI3 := Lib.hid kQI3
          clear hv kQI3
          have GM := Lib.hid (GM.out.by_below bX)
          have WG := Lib.hid (gb_be WG.out bX)
          have WW := Lib.hid (gb_be WW.out bX)
          have KX := Lib.hid (KX.out.below bX)
          have KA := Lib.hid (KA.out.below bX)
          have KB := Lib.hid (KB.out.below bX)
          have KS := Lib.hid (KS.out.below bX)
          have KBB := Lib.hid (KBB.out.below bX)
          have PI3 := Lib.hid (PI3.out.below bX)
          clear bX
          go_wp2_with fail
          refine (ints_b aPI3 aQI3 lI3 cPI3 lI3 cQI3 I3 I3 true _ PI3.out.1 QI3.out.1 (decide_eq_true rfl)).mono ?_
          rintro e y13 ⟨rfl, bX⟩
          have GM := Lib.hid (GM.out.by_below bX)
          have WG := Lib.hid (gb_be WG.out bX)
          have WW := Lib.hid (gb_be WW.out bX)
          have KX := Lib.hid (KX.out.below bX)
          have KA := Lib.hid (KA.out.below bX)
          have KB := Lib.hid (KB.out.below bX)
          have KS := Lib.hid (KS.out.below bX)
          have KBB := Lib.hid (KBB.out.below bX)
          have PI3 := Lib.hid (PI3.out.below bX)
          have QI3 := Lib.hid (QI3.out.below bX)
          clear bX
          clear PI3 QI3
          have b10 := below_box y13 (.cells #[.slice ba bl bc, .slice aA M cA, .slice aB M cB, .slice aS M cS] 22)
          have FOURB := Lib.hid (VBlk.new y13 [.slice ba bl bc, .slice aA M cA, .slice aB M cB, .slice aS M cS] #[.slice ba bl bc, .slice aA M cA, .slice aB M cB, .slice aS M cS] rfl 22)
          have hfour : y13.heap.size ≠ bd := Nat.ne_of_gt GM.out.lt
          have GM := Lib.hid (GM.out.by_below b10)
          have WG := Lib.hid (gb_be WG.out b10)
          have WW := Lib.hid (gb_be WW.out b10)
          have KX := Lib.hid (KX.out.below b10)
          have KA := Lib.hid (KA.out.below b10)
          have KB := Lib.hid (KB.out.below b10)
          have KS := Lib.hid (KS.out.below b10)
          have KBB := Lib.hid (KBB.out.below b10)
          obtain ⟨g4, hg4⟩ : ∃ x, y13.heap.size = x := ⟨_, rfl⟩
          obtain ⟨W8, hW8⟩ : ∃ W8, y13.alloc (.cells #[.slice ba bl bc, .slice aA M cA, .slice aB M cB, .slice aS M cS] 22) = W8 := ⟨_, rfl⟩
          rw [hg4] at FOURB hfour
          rw [hW8] at FOURB GM WG WW KX KA KB KS KBB
          have FOUR : Hid (∀ j, j < 4 → ∃ (x : Option Addr) (L c : Nat) (X : List Int), (∀ W', W8.grownBy W' (some bd) → W'.cell? ⟨g4, j, none⟩ = some (.slice x L c)) ∧ Kept W8 bd x L c X ∧ L ≤ 64) := fun j hj => by
            rcases (show j = 0 ∨ j = 1 ∨ j = 2 ∨ j = 3 by omega) with rfl | rfl | rfl | rfl
            · exact ⟨_, _, _, _, fun W' hg => (FOURB.out.far hg hfour).get rfl, KBB.out, hbl⟩
            · exact ⟨_, _, _, _, fun W' hg => (FOURB.out.far hg hfour).get rfl, KA.out, h64⟩
            · exact ⟨_, _, _, _, fun W' hg => (FOURB.out.far hg hfour).get rfl, KB.out, h64⟩
            · exact ⟨_, _, _, _, fun W' hg => (FOURB.out.far hg hfour).get rfl, KS.out, h64⟩
          clear b10 FOURB KA KB KS KBB
          go_wp2_with fail
          (try rw [hW8])
          (try rw [hg4])
          clear hW8 hg4
          go_loopw [197] (fun i wr => ∃ k : Nat, k ≤ 4 ∧ i = .int .i64 k ∧ Hid (W8.grownBy wr (some bd)) ∧ Hid (Game W0 wr bd la len cap)) (fun i _ => 4 - (intOf i).toNat)
          case atStart => exact ⟨0, Nat.zero_le _, rfl, gb_refl _ _, GM.out⟩
          case round =>
            clear GM
            obtain ⟨t, ht, rfl, gb, gm⟩ := hrel
            by_cases ht4 : t < 4
            · obtain ⟨ay, Ly, cy, Y, hcell, kY, hLy⟩ := FOUR.out t ht4
              have c0 := hcell wr gb.out
              have hti : (t : Int) < 4 := by omega
              have KY := Lib.hid (kY.far gb.out)
              have KX := Lib.hid (KX.out.far gb.out)
              have GM := Lib.hid gm.out
              have WG := Lib.hid (gb_tr WG.out gb.out)
              have WW := Lib.hid gb.out
              obtain ⟨ok, hok⟩ : ∃ b, meetB X Y = b := ⟨_, rfl⟩
              obtain ⟨fi, hfi⟩ : ∃ b, finB X Y = b := ⟨_, rfl⟩
              obtain ⟨ag, hag⟩ : ∃ b, agrB X Y = b := ⟨_, rfl⟩
              have HOK := Lib.hid hok
              have HFI := Lib.hid hfi
              have HAG := Lib.hid hag
              clear hcell kY gb gm hok hfi hag
              obtain ⟨J1, hJ1⟩ : ∃ l, meetL X Y = l := ⟨_, rfl⟩
              have HJ1 := Lib.hid hJ1
              obtain ⟨lJ1, hlJ1⟩ : ∃ l, J1.length = l := ⟨_, rfl⟩
              have HLJ1 := Lib.hid hlJ1
              clear hJ1 hlJ1
              obtain ⟨J2, hJ2⟩ : ∃ l, joinL X Y = l := ⟨_, rfl⟩
              have HJ2 := Lib.hid hJ2
              obtain ⟨lJ2, hlJ2⟩ : ∃ l, J2.length = l := ⟨_, rfl⟩
              have HLJ2 := Lib.hid hlJ2
              clear hJ2 hlJ2
              go_wp2_with fail
              refine (meet_is ax ay Lx cx Ly cy X Y _ (H0.out.below GM.out.below).flg KX.out.1 KY.out.1 hLx).mono ?_
              rintro e y14 ⟨v, rfl, hv, bX⟩
              clear c0 hti
              have hv2 : OwnI y14 wr.heap.size v (meetL X Y) := hv
              rw [HJ1.out] at hv2
              obtain ⟨aPJ1, cPJ1, rfl, kPJ1⟩ := OwnI.kept hv2 GM.out.lt
              rw [HLJ1.out] at kPJ1 ⊢
              rw [HOK.out]
              have PJ1 := Lib.hid kPJ1
              clear hv hv2 kPJ1
              have GM := Lib.hid (GM.out.by_below bX)
              have WG := Lib.hid (gb_be WG.out bX)
              have WW := Lib.hid (gb_be WW.out bX)
              have KX := Lib.hid (KX.out.below bX)
              have KY := Lib.hid (KY.out.below bX)
              clear bX
              go_wp2_with fail
              refine (rmeet_is ax ay Lx cx Ly cy X Y _ KX.out.1 KY.out.1 hLx).mono ?_
              rintro e y15 ⟨v, rfl, hv, bX⟩
              have hv2 : OwnI y15 y14.heap.size v (meetL X Y) := hv
              rw [HJ1.out] at hv2
              obtain ⟨aQJ1, cQJ1, rfl, kQJ1⟩ := OwnI.kept hv2 GM.out.lt
              rw [HLJ1.out] at kQJ1 ⊢
              rw [HOK.out]
              have QJ1 := Lib.hid kQJ1
              clear hv hv2 kQJ1
              have GM := Lib.hid (GM.out.by_below bX)
              have WG := Lib.hid (gb_be WG.out bX)
              have WW := Lib.hid (gb_be WW.out bX)
              have KX := Lib.hid (KX.out.below bX)
              have KY := Lib.hid (KY.out.below bX)
              have PJ1 := Lib.hid (PJ1.out.below bX)
              clear bX
              have T5 : (ok != ok) = false := by simp
              go_wp2_with fail
              refine (ints_b aPJ1 aQJ1 lJ1 cPJ1 lJ1 cQJ1 J1 J1 true _ PJ1.out.1 QJ1.out.1 (decide_eq_true rfl)).mono ?_
              rintro e y16 ⟨rfl, bX⟩
              have GM := Lib.hid (GM.out.by_below bX)
              have WG := Lib.hid (gb_be WG.out bX)
              have WW := Lib.hid (gb_be WW.out bX)
              have KX := Lib.hid (KX.out.below bX)
              have KY := Lib.hid (KY.out.below bX)
              have PJ1 := Lib.hid (PJ1.out.below bX)
              have QJ1 := Lib.hid (QJ1.out.below bX)
              clear bX
              clear PJ1 QJ1
              go_wp2_with fail
              refine (join_is ax ay Lx cx Ly cy X Y _ (H0.out.below GM.out.below).flg KX.out.1 KY.out.1 hLx).mono ?_
              rintro e y17 ⟨v, rfl, hv, bX⟩
              have hv2 : OwnI y17 y16.heap.size v (joinL X Y) := hv
              rw [HJ2.out] at hv2
              obtain ⟨aPJ2, cPJ2, rfl, kPJ2⟩ := OwnI.kept hv2 GM.out.lt
              rw [HLJ2.out] at kPJ2 ⊢
              have PJ2 := Lib.hid kPJ2
              clear hv hv2 kPJ2
              have GM := Lib.hid (GM.out.by_below bX)
              have WG := Lib.hid (gb_be WG.out bX)
              have WW := Lib.hid (gb_be WW.out bX)
              have KX := Lib.hid (KX.out.below bX)
              have KY := Lib.hid (KY.out.below bX)
              clear bX
              go_wp2_with fail
              refine (rjoin_is ax ay Lx cx Ly cy X Y _ KX.out.1 KY.out.1 hLx).mono ?_
              rintro e y18 ⟨v, rfl, hv, bX⟩
              have hv2 : OwnI y18 y17.heap.size v (joinL X Y) := hv
              rw [HJ2.out] at hv2
              obtain ⟨aQJ2, cQJ2, rfl, kQJ2⟩ := OwnI.kept hv2 GM.out.lt
              rw [HLJ2.out] at kQJ2 ⊢
              have QJ2 := Lib.hid kQJ2
              clear hv hv2 kQJ2
              have GM := Lib.hid (GM.out.by_below bX)
              have WG := Lib.hid (gb_be WG.out bX)
              have WW := Lib.hid (gb_be WW.out bX)
              have KX := Lib.hid (KX.out.below bX)
              have KY := Lib.hid (KY.out.below bX)
              have PJ2 := Lib.hid (PJ2.out.below bX)
              clear bX
              go_wp2_with fail
              refine (ints_b aPJ2 aQJ2 lJ2 cPJ2 lJ2 cQJ2 J2 J2 true _ PJ2.out.1 QJ2.out.1 (decide_eq_true rfl)).mono ?_
              rintro e y19 ⟨rfl, bX⟩
              have GM := Lib.hid (GM.out.by_below bX)
              have WG := Lib.hid (gb_be WG.out bX)
              have WW := Lib.hid (gb_be WW.out bX)
              have KX := Lib.hid (KX.out.below bX)
              have KY := Lib.hid (KY.out.below bX)
              have PJ2 := Lib.hid (PJ2.out.below bX)
              have QJ2 := Lib.hid (QJ2.out.below bX)
              clear bX
              clear PJ2 QJ2
              go_wp2_with fail
              refine (finer_b ax ay Lx cx Ly cy X Y fi _ (H0.out.below GM.out.below).flg KX.out.1 KY.out.1 HFI.out).mono ?_
              rintro e y20 ⟨rfl, bX⟩
              have GM := Lib.hid (GM.out.by_below bX)
              have WG := Lib.hid (gb_be WG.out bX)
              have WW := Lib.hid (gb_be WW.out bX)
              have KX := Lib.hid (KX.out.below bX)
              have KY := Lib.hid (KY.out.below bX)
              clear bX
              go_wp2_with fail
              refine (rfiner_is ax ay Lx cx Ly cy X Y _ KX.out.1 KY.out.1 hLx).mono ?_
              rintro e y21 ⟨rfl, bX⟩
              rw [HFI.out]
              have GM := Lib.hid (GM.out.by_below bX)
              have WG := Lib.hid (gb_be WG.out bX)
              have WW := Lib.hid (gb_be WW.out bX)
              have KX := Lib.hid (KX.out.below bX)
              have KY := Lib.hid (KY.out.below bX)
              clear bX
              go_wp2_with fail
              refine (agrees_b ax ay Lx cx Ly cy X Y ag _ (H0.out.below GM.out.below).flg KX.out.1 KY.out.1 HAG.out).mono ?_
              rintro e y22 ⟨rfl, bX⟩
              have GM := Lib.hid (GM.out.by_below bX)
              have WG := Lib.hid (gb_be WG.out bX)
              have WW := Lib.hid (gb_be WW.out bX)
              have KX := Lib.hid (KX.out.below bX)
              have KY := Lib.hid (KY.out.below bX)
              clear bX
              go_wp2_with fail
              refine (ragrees_is ax ay Lx cx Ly cy X Y _ KX.out.1 KY.out.1).mono ?_
              rintro e y23 ⟨rfl, bX⟩
              rw [HAG.out]
              have GM := Lib.hid (GM.out.by_below bX)
              have WG := Lib.hid (gb_be WG.out bX)
              have WW := Lib.hid (gb_be WW.out bX)
              have KX := Lib.hid (KX.out.below bX)
              have KY := Lib.hid (KY.out.below bX)
              clear bX
              go_wp2
              go_roundw
              case rel => exact ⟨t + 1, by omega, by go_num, WW, GM⟩
              case measure => simp [intOf]; omega
            · obtain rfl : t = 4 := by omega
              have NW := Lib.hid (gb_tr WW.out gb.out)
              go_wp2
              go_roundw
              case rel => exact ⟨j + 1, by omega, by go_num, NW, gm⟩
              case measure => simp [intOf]; omega
    · obtain rfl : j = 6 := by omega
      have hcls := (H0.out.below gm.out.below).flg
      go_wp2_with fail
      refine (awake_is _ hcls).mono ?_; rintro e w4 ⟨rfl, b4⟩
      have BZ := Lib.hid (B0.out.trans ((gm.out.below.trans (b4.mono gm.out.below.size)).mono B0.out.size))
      clear b4
      go_wp2
      go_ret
      exact ⟨rfl, BZ.out⟩
end Go.Proofs.YtpobgdolhdlmeaaDoor.msk
