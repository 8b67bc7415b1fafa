/- For every list of numbers, network and text ModeltextAnswers returns true: the program's functions on texts of networks say what the reference says. Condition: the tables hold what the program's text lays (the card ties that). -/
import Derived.Test.YtdgllaiejhnjmaaDoorMdJn
import Derived.Test.YtdgllaiejhnjmaaDoorMdW
import Derived.Test.YtdgllaiejhnjmaaDoorNetZ
import Derived.Deep.RegionHeld3
namespace Go.Proofs.YtdgllaiejhnjmaaDoor.mod
open Go.RowKit lex net aggs kit strs deck

theorem ans_len {ns : List Nd} {ds : List Dv} (hc : chk ns ds = 0) : (printT ns ds).length ≤ 133 * (ns.length + ds.length) := by
  obtain ⟨h1, h2⟩ := print_ln hc
  have := text_len h1
  show (textOf ((printW ns ds).map fun ws => Lib.join ws [32])).length ≤ _
  have h3 : (printW ns ds).length = ns.length + ds.length := by simp [printW]
  omega
theorem ans_pos {ns : List Nd} {ds : List Dv} (h : 0 < ns.length) : 0 < (printT ns ds).length := by
  cases ns with
  | nil => exact absurd h (by simp)
  | cons x r =>
    show 0 < (textOf (((x :: r).map ndW ++ ds.map (dvW (x :: r))).map fun ws => Lib.join ws [32])).length
    rw [List.map_cons, List.cons_append, List.map_cons]
    generalize Lib.join (ndW x) [32] = l
    generalize List.map _ _ = L
    simp [textOf]; omega
def SixAt (bd B : Nat) (W : World) : Prop := W.heap[B]? = some (.cells #[.string ⟨#[]⟩, .string ⟨#[32]⟩, .string ⟨#[10]⟩, .string ⟨#[35]⟩, .string ⟨#[48]⟩, .string ⟨#[110, 111, 100, 101, 32]⟩] 9 (0, 0)) ∧ B ≠ bd
theorem SixAt.keep {bd B : Nat} {W W' : World} (h : SixAt bd B W) (hb : W.grownBy W' (some bd)) : SixAt bd B W' := ⟨by rw [hb.block B (lt_of_block h.1) (fun e => h.2 (by injection e))]; exact h.1, h.2⟩
theorem six_is (k : Nat) (hk : k < 6) : ∃ y : ByteArray, (#[.string ⟨#[]⟩, .string ⟨#[32]⟩, .string ⟨#[10]⟩, .string ⟨#[35]⟩, .string ⟨#[48]⟩, .string ⟨#[110, 111, 100, 101, 32]⟩] : Array Value)[k]? = some (.string y) ∧ y.size ≤ 5 := by
  rcases (show k = 0 ∨ k = 1 ∨ k = 2 ∨ k = 3 ∨ k = 4 ∨ k = 5 by omega) with rfl | rfl | rfl | rfl | rfl | rfl
  all_goals exact ⟨_, rfl, by decide⟩
def D9 (t : ByteArray) (i bd : Nat) : Nat → Value → World → Prop
  | 0, v, _ => v = .string t
  | 1, v, _ => v = .int .i64 (i : Int)
  | 2, v, _ => ∃ y : ByteArray, y.size ≤ t.size ∧ v = .string y
  | 3, v, W => ∃ B, v = .slice (some ⟨B, 0, none⟩) 6 6 ∧ SixAt bd B W
  | 4, v, _ => v = .pointer (some ⟨bd, 0, none⟩)
  | 5, v, _ => ∃ k : Nat, k < 6 ∧ v = .int .i64 (k : Int)
  | 6, v, W => ∃ B k : Nat, k < 6 ∧ v = .pointer (some ⟨B, k, none⟩) ∧ SixAt bd B W
  | 7, v, _ => ∃ y : ByteArray, y.size ≤ 5 ∧ v = .string y
  | 8, v, _ => ∃ y : ByteArray, y.size ≤ t.size + 5 ∧ v = .string y
  | 9, v, _ => v = .string t
  | 10, v, _ => v = .int .i64 (i : Int)
  | 11, v, _ => v = .pointer (some ⟨bd, 0, none⟩)
  | 12, v, _ => ∃ k : Nat, k < 2 ∧ v = .int .i64 (k : Int)
  | 13, v, _ => ∃ k : Nat, i ≤ k ∧ k ≤ i + 1 ∧ v = .int .i64 (k : Int)
  | 14, v, _ => ∃ y : ByteArray, y.size ≤ t.size ∧ v = .string y
  | 15, v, _ => ∃ y : ByteArray, y.size ≤ 2 * t.size + 5 ∧ v = .string y
  | 16, v, _ => ∃ y : ByteArray, y.size ≤ 2 * t.size + 5 ∧ v = .string y
  | _, _, _ => True
theorem D9.kept {t : ByteArray} {i bd : Nat} {W W' : World} (hb : W.grownBy W' (some bd)) : ∀ j v, D9 t i bd j v W → D9 t i bd j v W'
  | 0, _, h => h
  | 1, _, h => h
  | 2, _, h => h
  | 3, _, h => by obtain ⟨B, h1, h2⟩ := h; exact ⟨B, h1, h2.keep hb⟩
  | 4, _, h => h
  | 5, _, h => h
  | 6, _, h => by obtain ⟨B, k, hk, h1, h2⟩ := h; exact ⟨B, k, hk, h1, h2.keep hb⟩
  | 7, _, h => h
  | 8, _, h => h
  | 9, _, h => h
  | 10, _, h => h
  | 11, _, h => h
  | 12, _, h => h
  | 13, _, h => h
  | 14, _, h => h
  | 15, _, h => h
  | 16, _, h => h
  | _ + 17, _, h => h
set_option maxRecDepth 100000 in
set_option maxHeartbeats 16000000 in
theorem answers_walk (la : Option Addr) (len cap : Nat) (zs : List Int) (ra rb : Option Addr) (RN rc RM rd : Nat) (rns : List Nd) (rds : List Dv) (s : ByteArray) (w : World)
    (hr : IsRow .i64 w la len cap zs) (hraw : NetIn w ra rb RN rc RM rd rns rds) (hsz : s.size ≤ maxLen) (h : MTabs w) :
    Calls Tryd.prog 3 #[.slice la len cap, .agg #[.slice ra RN rc, .slice rb RM rd], .string s] w fun e w' => e = .returned (.bool true) ∧ Below w.heap.size w w' := by
  have hl : len ≤ 9223372036854775807 := by
    rcases hr with ⟨_, h, _⟩ | ⟨_, _, h1, h2, _⟩
    · omega
    · unfold maxLen at h2; omega
  have H := Lib.hid h
  have HR := Lib.hid hr
  have RAW := Lib.hid hraw
  unfold maxLen at hsz
  have bx := below_box w (.cells #[.slice ra RN rc, .slice rb RM rd] 26)
  have BX := Lib.hid bx
  have NTX := Lib.hid (NtAt.new w (.slice ra RN rc) (.slice rb RM rd) 26)
  have LI := Lib.hid (light_is ra rb RN rc RM rd rns rds _ (hraw.below bx))
  clear h hr hraw bx
  by_cases h4 : len ≤ 400
  · have t1 : decide ((len : Int) ≤ 400) = true := decide_eq_true (by omega)
    go_enter Tryd.func3, Tryd.ntmps3
    go_wp2_with fail
    refine (few_any _ _ _ _ hl).mono ?_; rintro e w' ⟨rfl, rfl⟩
    go_wp2_with fail
    refine LI.out.mono ?_; rintro e W0 ⟨⟨r, rfl⟩, b0'⟩
    have B0 := Lib.hid (BX.out.trans (b0'.mono BX.out.size))
    have NT0 := Lib.hid (NTX.out.below b0' NTX.out.2.2)
    clear b0' LI NTX BX
    cases r
    · go_wp2_with fail
      refine (awake_is _ (H.out.below B0.out).tabs.cls).mono ?_; rintro e w4 ⟨rfl, b4⟩
      have BZ := Lib.hid (B0.out.trans (b4.mono B0.out.size))
      clear b4
      go_wp2
      go_ret
      exact ⟨rfl, BZ.out⟩
    · by_cases h5 : s.size ≤ 2000
      · have t5 : decide ((2000 : Int) < (s.size : Int)) = false := decide_eq_false (by omega)
        have H0 := Lib.hid (H.out.below B0.out)
        have HR0 := Lib.hid (HR.out.below B0.out)
        have RAW0 := Lib.hid (RAW.out.below B0.out)
        clear H HR RAW
        obtain ⟨x0, hx0⟩ : ∃ x, w.heap.size = x := ⟨_, rfl⟩
        have HX0 := Lib.hid hx0
        rw [hx0] at NT0
        have hxl := NT0.out.2.2
        have hs2 : s.size ≤ 2000 := h5
        clear h4 h5 hl
        go_wp2_with fail
        clear hx0
        refine (newg_any _ _ _ _).mono ?_; rintro e w1 ⟨rfl, g1⟩
        have hbw := g1.lt
        obtain ⟨bd, hbd⟩ : ∃ b, W0.heap.size = b := ⟨_, rfl⟩
        have HB := Lib.hid hbd
        rw [hbd] at hbw g1 hxl ⊢
        clear hbd
        go_wp2_with fail
        refine (network_is (nodes := 6) (devices := 9) g1 HR0.out (by decide) (by decide) (by decide) (by decide)).mono ?_
        rintro e W2 ⟨vn, vd, ns, ds, rfl, g2, rn, rdd, gn, gd, n1, n2, d1, d2⟩
        obtain ⟨an, cn, ad, cd, rfl, rfl, ni, z1, z2⟩ := rows_net rn rdd (by omega) gn gd hbw
        have hch := good_chk (by omega) (by omega) gn gd
        have CH := Lib.hid hch
        have hpl := ans_len hch
        have hpp := ans_pos (ds := ds) (show 0 < ns.length by omega)
        have ept : prT ns ds = printT ns ds := if_pos hch
        obtain ⟨N, hN⟩ : ∃ N, ns.length = N := ⟨_, rfl⟩
        obtain ⟨M, hM⟩ : ∃ M, ds.length = M := ⟨_, rfl⟩
        rw [hN] at n1 n2 ni hpl ⊢
        rw [hM] at d1 d2 ni hpl ⊢
        have hb2 := g2.lt
        have bx3 := below_box W2 (.cells #[.slice an N cn, .slice ad M cd] 26)
        have NTa := NtAt.new W2 (.slice an N cn) (.slice ad M cd) 26
        have g3 := g2.alloc (.cells #[.slice an N cn, .slice ad M cd] 26)
        obtain ⟨g, hg⟩ : ∃ g, W2.heap.size = g := ⟨_, rfl⟩
        rw [hg] at NTa hb2
        obtain ⟨W3, hW3⟩ : ∃ W3, W2.alloc (.cells #[.slice an N cn, .slice ad M cd] 26) = W3 := ⟨_, rfl⟩
        have ni3 := ni.below bx3
        rw [hW3] at NTa g3 ni3
        have hgb : g ≠ bd := by omega
        have RP := rprint_is an ad N cn M cd ns ds _ ni3
        rw [ept, hch] at RP
        obtain ⟨t, ht⟩ : ∃ t, bs (printT ns ds) = t := ⟨_, rfl⟩
        rw [ht] at RP
        have hts : t.size ≤ 133 * (N + M) := by rw [← ht, bs_size]; exact hpl
        have hts2 : t.size ≤ 2000 := by omega
        have htp : 0 < t.size := by rw [← ht, bs_size]; exact hpp
        have tp : decide ((0 : Int) < (t.size : Int)) = true := decide_eq_true (by omega)
        have RP := Lib.hid RP
        have NTA := Lib.hid NTa
        have G3 := Lib.hid g3
        have NFX : Hid (NF W3 bd an ad N cn M cd ns ds) := ⟨ni3, z1, z2⟩
        clear rn rdd gn gd hN hM z1 z2 g1 g2 hbw hch ept ht NTa ni ni3 hpl hpp hts g3 bx3
        obtain ⟨q0, q1, -⟩ := NTA.out
        go_wp2_with fail
        refine RP.out.mono ?_; rintro e W4 ⟨rfl, b4⟩
        have G4 := Lib.hid (G3.out.by_below b4)
        have NF4 : Hid (NF W4 bd an ad N cn M cd ns ds) := ⟨NFX.out.1.below b4, NFX.out.2⟩
        have NT4 := Lib.hid (NTA.out.below b4 NTA.out.2.2)
        clear b4 hW3 hg RP G3 NFX NTA q0 q1
        go_wp2_with fail
        refine (G4.out.next HR0.out (t.size : Int) (by omega)).mono ?_; rintro e V1 ⟨i', rfl, i0, i1, gm1, gb1⟩
        obtain ⟨i, rfl⟩ : ∃ i : Nat, i' = i := ⟨i'.toNat, by omega⟩
        have hit : i < t.size := by omega
        have hit2 : (i : Int) ≤ (t.size : Int) := by omega
        have GV1 := Lib.hid gm1
        have NFV := Lib.hid (NF4.out.keep2 gb1)
        have CV : Hid (V1.cell? ⟨g, 0, none⟩ = some (.slice an N cn) ∧ V1.cell? ⟨g, 1, none⟩ = some (.slice ad M cd)) := ⟨gb_cell NT4.out.1 gb1 hgb, gb_cell NT4.out.2.1 gb1 hgb⟩
        clear i0 i1 gm1 gb1 NF4 NT4 G4
        go_wp2
        refine inv.wp_region_inv (fun _ W => Game W0 W bd la len cap ∧ V1.grownBy W (some bd)) (D9 t i bd) (by kernel_rfl) (by kernel_rfl) ⟨GV1.out.drew, gb_drew (gb_refl V1 (some bd))⟩ ?steps ?rest
        case steps =>
          refine ⟨fun vs W done hS hD hno K hK => ?_, fun vs W done hS hD hno K hK => ?_, fun vs W done hS hD hno K hK => ?_, fun vs W done hS hD hno K hK => ?_, fun vs W done hS hD hno K hK => ?_, fun vs W done hS hD hno K hK => ?_, fun vs W done hS hD hno K hK => ?_, fun vs W done hS hD hno K hK => ?_, fun vs W done hS hD hno K hK => ?_, fun vs W done hS hD hno K hK => ?_, fun vs W done hS hD hno K hK => ?_, fun vs W done hS hD hno K hK => ?_, fun vs W done hS hD hno K hK => ?_, fun vs W done hS hD hno K hK => ?_, fun vs W done hS hD hno K hK => ?_, fun vs W done hS hD hno K hK => ?_, fun vs W done hS hD hno K hK => ?_, trivial⟩
          · simp only [inv.dstsL, inv.putT, Nat.reduceAdd, List.set_cons_zero, List.set_cons_succ]
            go_simp
            exact hK _ _ _ (by simp only [inv.dstsL, inv.putT, Nat.reduceAdd, List.set_cons_zero, List.set_cons_succ]; (try rfl)) (hS) (rfl) (fun _ _ h => h)
          · simp only [inv.dstsL, inv.putT, Nat.reduceAdd, List.set_cons_zero, List.set_cons_succ]
            go_simp
            exact hK _ _ _ (by simp only [inv.dstsL, inv.putT, Nat.reduceAdd, List.set_cons_zero, List.set_cons_succ]; (try rfl)) (hS) (rfl) (fun _ _ h => h)
          · simp only [inv.dstsL, inv.putT, Nat.reduceAdd, List.set_cons_zero, List.set_cons_succ]
            have h0 : (vs 0) = .string t := hD 0 (by kernel_rfl)
            have h1 : (vs 1) = .int .i64 (i : Int) := hD 1 (by kernel_rfl)
            rw [h0, h1]
            go_simp
            try (rw [if_pos (by omega)]; go_simp)
            exact hK _ _ _ (by simp only [inv.dstsL, inv.putT, Nat.reduceAdd, List.set_cons_zero, List.set_cons_succ, h0, h1]; (try rfl)) (hS) (⟨_, by rw [ByteArray.size_extract]; omega, rfl⟩) (fun _ _ h => h)
          · simp only [inv.dstsL, inv.putT, Nat.reduceAdd, List.set_cons_zero, List.set_cons_succ]
            have hne : W.heap.size ≠ bd := Nat.ne_of_gt hS.1.lt
            have bxx := below_box W (.cells #[.string ⟨#[]⟩, .string ⟨#[32]⟩, .string ⟨#[10]⟩, .string ⟨#[35]⟩, .string ⟨#[48]⟩, .string ⟨#[110, 111, 100, 101, 32]⟩] 9)
            have hnew := heap_alloc_new W (.cells #[.string ⟨#[]⟩, .string ⟨#[32]⟩, .string ⟨#[10]⟩, .string ⟨#[35]⟩, .string ⟨#[48]⟩, .string ⟨#[110, 111, 100, 101, 32]⟩] 9)
            go_simp
            exact hK _ _ _ (by simp only [inv.dstsL, inv.putT, Nat.reduceAdd, List.set_cons_zero, List.set_cons_succ]; (try rfl)) (⟨hS.1.by_below bxx, gb_be hS.2 bxx⟩) (⟨_, rfl, hnew, hne⟩) (D9.kept (gb_be (gb_refl W (some bd)) bxx))
          · simp only [inv.dstsL, inv.putT, Nat.reduceAdd, List.set_cons_zero, List.set_cons_succ]
            go_simp
            exact hK _ _ _ (by simp only [inv.dstsL, inv.putT, Nat.reduceAdd, List.set_cons_zero, List.set_cons_succ]; (try rfl)) (hS) (rfl) (fun _ _ h => h)
          · simp only [inv.dstsL, inv.putT, Nat.reduceAdd, List.set_cons_zero, List.set_cons_succ]
            have h4 : (vs 4) = .pointer (some ⟨bd, 0, none⟩) := hD 4 (by kernel_rfl)
            rw [h4]
            go_simp
            refine (hS.1.next HR0.out (6 : Int) (by omega)).mono ?_; rintro e W2 ⟨q, rfl, r0, r1, hg2, hgb2⟩
            obtain ⟨k, rfl⟩ : ∃ k : Nat, q = k := ⟨q.toNat, by omega⟩
            have hk : k < 6 := by omega
            clear r0 r1
            go_wp2_with fail
            exact hK _ _ _ (by simp only [inv.dstsL, inv.putT, Nat.reduceAdd, List.set_cons_zero, List.set_cons_succ, h4]; (try rfl)) (⟨hg2, gb_tr hS.2 hgb2⟩) (⟨k, hk, rfl⟩) (D9.kept hgb2)
          · simp only [inv.dstsL, inv.putT, Nat.reduceAdd, List.set_cons_zero, List.set_cons_succ]
            have h3 : ∃ B, (vs 3) = .slice (some ⟨B, 0, none⟩) 6 6 ∧ SixAt bd B W := hD 3 (by kernel_rfl)
            have h5 : ∃ k : Nat, k < 6 ∧ (vs 5) = .int .i64 (k : Int) := hD 5 (by kernel_rfl)
            obtain ⟨B, h3, b3⟩ := h3
            obtain ⟨k, hk, h5⟩ := h5
            have hk2 : (k : Int) < 6 := by omega
            rw [h3, h5]
            go_simp
            exact hK _ _ _ (by simp only [inv.dstsL, inv.putT, Nat.reduceAdd, List.set_cons_zero, List.set_cons_succ, h3, h5]; (try rfl)) (hS) (⟨B, k, hk, rfl, b3⟩) (fun _ _ h => h)
          · simp only [inv.dstsL, inv.putT, Nat.reduceAdd, List.set_cons_zero, List.set_cons_succ]
            have h6 : ∃ B k : Nat, k < 6 ∧ (vs 6) = .pointer (some ⟨B, k, none⟩) ∧ SixAt bd B W := hD 6 (by kernel_rfl)
            obtain ⟨B, k, hk, h6, b6⟩ := h6
            obtain ⟨y, hy, hy5⟩ := six_is k hk
            have c6 := (cell_at b6.1 k).1.trans hy
            rw [h6]
            go_simp
            exact hK _ _ _ (by simp only [inv.dstsL, inv.putT, Nat.reduceAdd, List.set_cons_zero, List.set_cons_succ, h6]; (try rfl)) (hS) (⟨y, hy5, rfl⟩) (fun _ _ h => h)
          · simp only [inv.dstsL, inv.putT, Nat.reduceAdd, List.set_cons_zero, List.set_cons_succ]
            have h2 : ∃ y : ByteArray, y.size ≤ t.size ∧ (vs 2) = .string y := hD 2 (by kernel_rfl)
            have h7 : ∃ y : ByteArray, y.size ≤ 5 ∧ (vs 7) = .string y := hD 7 (by kernel_rfl)
            obtain ⟨y2, z2, h2⟩ := h2
            obtain ⟨y7, z7, h7⟩ := h7
            have hle : y2.size + y7.size ≤ 5000 := by omega
            rw [h2, h7]
            go_simp
            try (rw [if_neg (by omega)]; go_simp)
            exact hK _ _ _ (by simp only [inv.dstsL, inv.putT, Nat.reduceAdd, List.set_cons_zero, List.set_cons_succ, h2, h7]; (try rfl)) (hS) (⟨y2 ++ y7, by rw [ByteArray.size_append]; omega, rfl⟩) (fun _ _ h => h)
          · simp only [inv.dstsL, inv.putT, Nat.reduceAdd, List.set_cons_zero, List.set_cons_succ]
            go_simp
            exact hK _ _ _ (by simp only [inv.dstsL, inv.putT, Nat.reduceAdd, List.set_cons_zero, List.set_cons_succ]; (try rfl)) (hS) (rfl) (fun _ _ h => h)
          · simp only [inv.dstsL, inv.putT, Nat.reduceAdd, List.set_cons_zero, List.set_cons_succ]
            go_simp
            exact hK _ _ _ (by simp only [inv.dstsL, inv.putT, Nat.reduceAdd, List.set_cons_zero, List.set_cons_succ]; (try rfl)) (hS) (rfl) (fun _ _ h => h)
          · simp only [inv.dstsL, inv.putT, Nat.reduceAdd, List.set_cons_zero, List.set_cons_succ]
            go_simp
            exact hK _ _ _ (by simp only [inv.dstsL, inv.putT, Nat.reduceAdd, List.set_cons_zero, List.set_cons_succ]; (try rfl)) (hS) (rfl) (fun _ _ h => h)
          · simp only [inv.dstsL, inv.putT, Nat.reduceAdd, List.set_cons_zero, List.set_cons_succ]
            have h11 : (vs 11) = .pointer (some ⟨bd, 0, none⟩) := hD 11 (by kernel_rfl)
            rw [h11]
            go_simp
            refine (hS.1.next HR0.out (2 : Int) (by omega)).mono ?_; rintro e W2 ⟨q, rfl, r0, r1, hg2, hgb2⟩
            obtain ⟨k, rfl⟩ : ∃ k : Nat, q = k := ⟨q.toNat, by omega⟩
            have hk : k < 2 := by omega
            clear r0 r1
            go_wp2_with fail
            exact hK _ _ _ (by simp only [inv.dstsL, inv.putT, Nat.reduceAdd, List.set_cons_zero, List.set_cons_succ, h11]; (try rfl)) (⟨hg2, gb_tr hS.2 hgb2⟩) (⟨k, hk, rfl⟩) (D9.kept hgb2)
          · simp only [inv.dstsL, inv.putT, Nat.reduceAdd, List.set_cons_zero, List.set_cons_succ]
            have h10 : (vs 10) = .int .i64 (i : Int) := hD 10 (by kernel_rfl)
            have h12 : ∃ k : Nat, k < 2 ∧ (vs 12) = .int .i64 (k : Int) := hD 12 (by kernel_rfl)
            obtain ⟨k, hk, h12⟩ := h12
            have hwv : IntKind.i64.wrap ((i : Int) + (k : Int)) = ((i + k : Nat) : Int) := by rw [IntKind.wrap_i64]; omega
            rw [h10, h12]
            go_simp
            exact hK _ _ _ (by simp only [inv.dstsL, inv.putT, Nat.reduceAdd, List.set_cons_zero, List.set_cons_succ, h10, h12]; (try rfl)) (hS) (⟨i + k, by omega, by omega, rfl⟩) (fun _ _ h => h)
          · simp only [inv.dstsL, inv.putT, Nat.reduceAdd, List.set_cons_zero, List.set_cons_succ]
            have h9 : (vs 9) = .string t := hD 9 (by kernel_rfl)
            have h13 : ∃ k : Nat, i ≤ k ∧ k ≤ i + 1 ∧ (vs 13) = .int .i64 (k : Int) := hD 13 (by kernel_rfl)
            obtain ⟨k, hk0, hk1, h13⟩ := h13
            have hkt : k ≤ t.size := by omega
            rw [h9, h13]
            go_simp
            try (rw [if_pos (by omega)]; go_simp)
            exact hK _ _ _ (by simp only [inv.dstsL, inv.putT, Nat.reduceAdd, List.set_cons_zero, List.set_cons_succ, h9, h13]; (try rfl)) (hS) (⟨_, by rw [ByteArray.size_extract]; omega, rfl⟩) (fun _ _ h => h)
          · simp only [inv.dstsL, inv.putT, Nat.reduceAdd, List.set_cons_zero, List.set_cons_succ]
            have h8 : ∃ y : ByteArray, y.size ≤ t.size + 5 ∧ (vs 8) = .string y := hD 8 (by kernel_rfl)
            have h14 : ∃ y : ByteArray, y.size ≤ t.size ∧ (vs 14) = .string y := hD 14 (by kernel_rfl)
            obtain ⟨y8, z8, h8⟩ := h8
            obtain ⟨y14, z14, h14⟩ := h14
            have hle : y8.size + y14.size ≤ 9000 := by omega
            rw [h8, h14]
            go_simp
            try (rw [if_neg (by omega)]; go_simp)
            exact hK _ _ _ (by simp only [inv.dstsL, inv.putT, Nat.reduceAdd, List.set_cons_zero, List.set_cons_succ, h8, h14]; (try rfl)) (hS) (⟨y8 ++ y14, by rw [ByteArray.size_append]; omega, rfl⟩) (fun _ _ h => h)
          · simp only [inv.dstsL, inv.putT, Nat.reduceAdd, List.set_cons_zero, List.set_cons_succ]
            have h15 : ∃ y : ByteArray, y.size ≤ 2 * t.size + 5 ∧ (vs 15) = .string y := hD 15 (by kernel_rfl)
            obtain ⟨y, z, h15⟩ := h15
            rw [h15]
            go_simp
            exact hK _ _ _ (by simp only [inv.dstsL, inv.putT, Nat.reduceAdd, List.set_cons_zero, List.set_cons_succ, h15]; (try rfl)) (hS) (⟨y, z, rfl⟩) (fun _ _ h => h)
        case rest =>
          intro vs W done hdone hS hD
          have HSZ := Lib.hid hS
          have d16 : ∃ y : ByteArray, y.size ≤ 2 * t.size + 5 ∧ vs 16 = .string y := hD 16 (by decide)
          obtain ⟨cut, hcut, h16⟩ := d16
          clear hD hdone
          simp only [inv.dstsL, inv.putT, Nat.reduceAdd, List.set_cons_zero, List.set_cons_succ, h16]
          generalize vs 0 = y0, vs 1 = y1, vs 2 = y2, vs 3 = y3, vs 4 = y4, vs 5 = y5, vs 6 = y6, vs 7 = y7, vs 8 = y8, vs 9 = y9, vs 10 = y10, vs 11 = y11, vs 12 = y12, vs 13 = y13, vs 14 = y14, vs 15 = y15
          clear h16
          have gm1 := HSZ.out.1
          have gr0 := gb_refl W (some bd)
          have q0 := gb_cell CV.out.1 HSZ.out.2 hgb
          have q1 := gb_cell CV.out.2 HSZ.out.2 hgb
          have hxb : x0 ≠ bd := by omega
          obtain ⟨p0, p1, -⟩ := NT0.out.below HSZ.out.1.below NT0.out.2.2
          have NFN := Lib.hid (NFV.out.keep2 HSZ.out.2)
          have bs0 := HSZ.out.1.below
          rw [HB.out] at bs0
          have raw_lt : ∀ (α : Type) (enc : α → List Value) (k : Nat) (x : Option Addr) (xs : List α), RIn enc k W0 x xs → ∀ p, x = some p → p.block ≠ bd := fun α enc k x xs h p hp => by
            rcases h with ⟨h, _⟩ | ⟨bb, off, h1, h2, _⟩
            · rw [h] at hp; cases hp
            · rw [h1] at hp; cases hp; have := HB.out; dsimp only; omega
          have NFR : Hid (NF W bd ra rb RN rc RM rd rns rds) := ⟨RAW0.out.below (by rw [HB.out]; exact bs0), raw_lt _ _ _ _ _ RAW0.out.nin, raw_lt _ _ _ _ _ RAW0.out.din⟩
          clear hS HSZ NFV CV bs0 raw_lt GV1 RAW0 NT0
          go_wp2_with fail
          go_region_held3 (fun w' => w'.cell? ⟨g, 0, none⟩ = some (.slice an N cn) ∧ w'.cell? ⟨g, 1, none⟩ = some (.slice ad M cd) ∧ w'.cell? ⟨x0, 0, none⟩ = some (.slice ra RN rc) ∧ w'.cell? ⟨x0, 1, none⟩ = some (.slice rb RM rd) ∧ Game W0 w' bd la len cap ∧ W.grownBy w' (some bd))
            (first | exact four_drew ⟨q0, q1, p0, p1, gm1, gr0⟩ | exact ⟨q0, q1, p0, p1, gm1, gr0⟩ | exact four_drew (by assumption) | exact four_keep (by assumption) hgb hxb (by assumption) (by assumption) | exact four_below (by assumption) hgb hxb (below_box _ _) | exact four_drew (four_keep (by assumption) hgb hxb (by assumption) (by assumption)) | go_keep)
            (first
              | (go_at_call 14; refine (odd_is (four_game (by assumption)).1 HR0.out an ad N cn M cd ns ds (NFN.out.keep (four_game (by assumption)).2) (by omega) (by omega) (by omega) (by omega) NFN.out.2.1 NFN.out.2.2).mono ?_
                 rintro e w7 ⟨a', b', N', c', M', d', ns', ds', rfl, ni', z1', z2', gm, gb⟩))
          rename_i hS
          have hcx := heap_alloc_new w7 (.cells #[.slice an N cn, .slice ad M cd, .slice ra RN rc, .slice rb RM rd, .slice a' N' c', .slice b' M' d'] 26)
          have NF3 : NF (w7.alloc (.cells #[.slice an N cn, .slice ad M cd, .slice ra RN rc, .slice rb RM rd, .slice a' N' c', .slice b' M' d'] 26)) bd a' b' N' c' M' d' ns' ds' := ⟨ni'.below (below_box _ _), fun p hp => (z1' p hp).1, fun p hp => (z2' p hp).1⟩
          have hxs8 : w7.heap.size ≠ bd := by have := gm.lt; omega
          obtain ⟨xs, hxs⟩ : ∃ x, w7.heap.size = x := ⟨_, rfl⟩
          obtain ⟨W8, hW8⟩ : ∃ W, w7.alloc (.cells #[.slice an N cn, .slice ad M cd, .slice ra RN rc, .slice rb RM rd, .slice a' N' c', .slice b' M' d'] 26) = W := ⟨_, rfl⟩
          rw [hW8] at hS hcx NF3 ⊢
          rw [hxs] at hcx hxs8 ⊢
          have gmr := four_game hS
          have NF1 : NF W8 bd an ad N cn M cd ns ds := NFN.out.keep2 gmr.2
          have NF2 : NF W8 bd ra rb RN rc RM rd rns rds := NFR.out.keep2 gmr.2
          have FX : Hid (∀ j, j < 3 → ∃ a N c b M d ns ds, W8.cell? ⟨xs, j * 2, none⟩ = some (.slice a N c) ∧ W8.cell? ⟨xs, j * 2 + 1, none⟩ = some (.slice b M d) ∧ NF W8 bd a b N c M d ns ds) := fun j hj => by
            rcases (show j = 0 ∨ j = 1 ∨ j = 2 by omega) with rfl | rfl | rfl
            · exact ⟨an, N, cn, ad, M, cd, ns, ds, (cell_at hcx 0).1, (cell_at hcx 1).1, NF1⟩
            · exact ⟨ra, RN, rc, rb, RM, rd, rns, rds, (cell_at hcx 2).1, (cell_at hcx 3).1, NF2⟩
            · exact ⟨a', N', c', b', M', d', ns', ds', (cell_at hcx 4).1, (cell_at hcx 5).1, NF3⟩
          have G8 := Lib.hid gmr.1
          have C8 : Hid (W8.cell? ⟨g, 0, none⟩ = some (.slice an N cn) ∧ W8.cell? ⟨g, 1, none⟩ = some (.slice ad M cd)) := ⟨hS.1, hS.2.1⟩
          have NF8 := Lib.hid NF1
          have H8 : Hid (∀ W, Game W0 W bd la len cap → MTabs W) := fun W g => H0.out.below g.below
          clear hS hcx NF1 NF2 NF3 gmr hW8 hxs gm gb ni' z1' z2' q0 q1 p0 p1 gm1 gr0 NFN NFR
          go_wp2_with fail
          go_loopw [81] (fun i wr => ∃ j : Nat, j ≤ 3 ∧ i = .int .i64 j ∧ Hid (W8.grownBy wr (some bd)) ∧ Hid (Game W0 wr bd la len cap)) (fun i _ => 3 - (intOf i).toNat)
          case atStart => exact ⟨0, Nat.zero_le _, rfl, gb_refl _ _, G8⟩
          case round =>
            clear G8
            obtain ⟨j, hj3, rfl, gb8, gm8⟩ := hrel
            by_cases hj : j < 3
            · obtain ⟨xa, xN, xc, xb, xM, xd, xns, xds, y0, y1, nf⟩ := FX.out j hj
              have y0 := gb_cell y0 gb8.out hxs8
              have y1 := gb_cell y1 gb8.out hxs8
              have NTx := NtAt.new wr (.slice xa xN xc) (.slice xb xM xd) 26
              have bA := below_box wr (.cells #[.slice xa xN xc, .slice xb xM xd] 26)
              obtain ⟨gx, hgx⟩ : ∃ x, wr.heap.size = x := ⟨_, rfl⟩
              obtain ⟨WA, hWA⟩ : ∃ W, wr.alloc (.cells #[.slice xa xN xc, .slice xb xM xd] 26) = W := ⟨_, rfl⟩
              rw [hWA] at NTx bA
              rw [hgx] at NTx
              have hgx8 : gx ≠ bd := by have := gm8.out.lt; omega
              have gA8 := gb_be (gb_refl wr (some bd)) bA
              have gmA := gm8.out.by_below bA
              have NFA := Lib.hid (nf.keep2 (gb_tr gb8.out gA8))
              have GA := Lib.hid gmA
              have GBA := Lib.hid (gb_tr gb8.out gA8)
              have NXA := Lib.hid NTx
              have P1 := Lib.hid (print_is xa xb xN xc xM xd xns xds WA (H8.out _ gmA) NFA.out.1)
              have P2 := Lib.hid (fun W (b : WA.grownBy W (some bd)) => rprint_is xa xb xN xc xM xd xns xds W (NFA.out.keep b))
              obtain ⟨E, hE⟩ : ∃ E, chk xns xds = E := ⟨_, rfl⟩
              rw [hE] at P1 P2
              obtain ⟨tx, htx⟩ : ∃ tx, bs (prT xns xds) = tx := ⟨_, rfl⟩
              rw [htx] at P1 P2
              obtain ⟨SR, hSR⟩ : ∃ q : Bool, q = true ↔ xns = ns ∧ xds = ds := by
                classical exact ⟨decide (xns = ns ∧ xds = ds), decide_eq_true_iff⟩
              have hSR1 : SR = true ↔ chk xns xds = 0 ∧ xns = ns ∧ xds = ds := by
                rw [hSR]
                exact ⟨fun h => ⟨by rw [h.1, h.2]; exact CH.out, h⟩, fun h => h.2⟩
              have NFG := Lib.hid (NF8.out.keep2 GBA.out)
              have SA := Lib.hid (fun W (gm : Game W0 W bd la len cap) (b : WA.grownBy W (some bd)) => same_is xa xb an ad xN xc xM xd N cn M cd xns ns xds ds SR W (H8.out _ gm).tabs.cls (NFA.out.keep b) (NFG.out.keep b) hSR1)
              have SB := Lib.hid (fun W (b : WA.grownBy W (some bd)) => rsame_is xa xb an ad xN xc xM xd N cn M cd xns ns xds ds SR W (NFA.out.keep b) (NFG.out.keep b) hSR)
              have CGA : Hid (WA.cell? ⟨g, 0, none⟩ = some (.slice an N cn) ∧ WA.cell? ⟨g, 1, none⟩ = some (.slice ad M cd)) := ⟨gb_cell C8.out.1 GBA.out hgb, gb_cell C8.out.2 GBA.out hgb⟩
              obtain ⟨q0, q1, -⟩ := NTx
              clear bA hE nf htx hSR hSR1 gmA gA8
              go_wp2_with fail
              clear y0 y1 hWA hgx
              refine P1.out.mono ?_; rintro e W11 ⟨rfl, b11⟩
              obtain ⟨q0, q1, -⟩ := NXA.out.below b11 NXA.out.2.2
              have G11 := Lib.hid (GA.out.by_below b11)
              have R11 := Lib.hid (gb_be (gb_refl WA (some bd)) b11)
              have NX11 := Lib.hid (NXA.out.below b11 NXA.out.2.2)
              clear b11
              go_wp2_with fail
              refine (P2.out _ R11.out).mono ?_; rintro e W12 ⟨rfl, b12⟩
              obtain ⟨q0, q1, -⟩ := NX11.out.below b12 NX11.out.2.2
              have G12 := Lib.hid (G11.out.by_below b12)
              have R12 := Lib.hid (gb_be R11.out b12)
              have p0 := gb_cell CGA.out.1 R12.out hgb
              have p1 := gb_cell CGA.out.2 R12.out hgb
              have gm1 := G12.out
              have gr0 := R12.out
              clear b12
              go_wp2_with fail
              go_region_held3 (fun w' => w'.cell? ⟨gx, 0, none⟩ = some (.slice xa xN xc) ∧ w'.cell? ⟨gx, 1, none⟩ = some (.slice xb xM xd) ∧ w'.cell? ⟨g, 0, none⟩ = some (.slice an N cn) ∧ w'.cell? ⟨g, 1, none⟩ = some (.slice ad M cd) ∧ Game W0 w' bd la len cap ∧ WA.grownBy w' (some bd))
                (first | exact four_drew ⟨q0, q1, p0, p1, gm1, gr0⟩ | exact ⟨q0, q1, p0, p1, gm1, gr0⟩ | exact four_drew (by assumption) | exact four_below (by assumption) hgx8 hgb (by assumption) | exact four_drew (four_below (by assumption) hgx8 hgb (by assumption)) | go_keep)
                (first
                  | (go_at_call 16; refine (SA.out _ (four_game (by assumption)).1 (four_game (by assumption)).2).mono ?_; rintro e w5 ⟨rfl, b5⟩)
                  | (go_at_call 17; refine (SB.out _ (four_game (by assumption)).2).mono ?_; rintro e w5 ⟨rfl, b5⟩))
              rename_i hS
              have GBE := Lib.hid (gb_tr GBA.out (four_game hS).2)
              have GME := Lib.hid (four_game hS).1
              clear hS
              go_wp2
              go_roundw
              case rel => exact ⟨j + 1, by omega, by go_num, GBE, GME⟩
              case measure => simp [intOf]; omega
            · obtain rfl : j = 3 := by omega
              rw [show ((3 : Nat) : Int) = (3 : Int) from rfl]
              have szx : (⟨#[35, 32, 120, 10, 10]⟩ : ByteArray).size = 5 := rfl
              have hcs := heap_alloc_new wr (.cells #[.string s, .string t, .string cut, .string (t ++ s), .string (⟨#[35, 32, 120, 10, 10]⟩ ++ t)] 9)
              have bS := below_box wr (.cells #[.string s, .string t, .string cut, .string (t ++ s), .string (⟨#[35, 32, 120, 10, 10]⟩ ++ t)] 9)
              obtain ⟨WS, hWS⟩ : ∃ W, wr.alloc (.cells #[.string s, .string t, .string cut, .string (t ++ s), .string (⟨#[35, 32, 120, 10, 10]⟩ ++ t)] 9) = W := ⟨_, rfl⟩
              obtain ⟨sb, hsb⟩ : ∃ x, wr.heap.size = x := ⟨_, rfl⟩
              rw [hWS] at hcs bS
              rw [hsb] at hcs
              have hsb8 : sb ≠ bd := by have := gm8.out.lt; omega
              have GS := Lib.hid (gm8.out.by_below bS)
              have FS : Hid (∀ k, k < 5 → ∃ y : ByteArray, y.size ≤ 10000 ∧ WS.cell? ⟨sb, k, none⟩ = some (.string y)) := fun k hk => by
                rcases (show k = 0 ∨ k = 1 ∨ k = 2 ∨ k = 3 ∨ k = 4 by omega) with rfl | rfl | rfl | rfl | rfl
                · exact ⟨_, by omega, (cell_at hcs 0).1⟩
                · exact ⟨_, by omega, (cell_at hcs 1).1⟩
                · exact ⟨_, by omega, (cell_at hcs 2).1⟩
                · exact ⟨_, by rw [ByteArray.size_append]; omega, (cell_at hcs 3).1⟩
                · exact ⟨_, by rw [ByteArray.size_append, szx]; omega, (cell_at hcs 4).1⟩
              clear hcs bS gb8 gm8 FX C8 NF8
              go_wp2_with fail
              clear hWS hsb
              go_loopw [123] (fun i wr => ∃ k : Nat, k ≤ 5 ∧ i = .int .i64 k ∧ Hid (WS.grownBy wr (some bd)) ∧ Hid (Game W0 wr bd la len cap)) (fun i _ => 5 - (intOf i).toNat)
              case atStart => exact ⟨0, Nat.zero_le _, rfl, gb_refl _ _, GS⟩
              case round =>
                clear GS
                obtain ⟨k, hk5, rfl, gbk, gmk⟩ := hrel
                by_cases hk : k < 5
                · obtain ⟨y, hy, cy⟩ := FS.out k hk
                  have cy := gb_cell cy gbk.out hsb8
                  have PA := Lib.hid (parse_is y wr (H8.out _ gmk.out).tabs.cls (by omega))
                  have PB := Lib.hid (fun W => rparse_is y W (by omega))
                  obtain ⟨R, hR⟩ : ∃ R, parseR y.data.toList = R := ⟨_, rfl⟩
                  unfold ParsePost at PA PB
                  rw [hR] at PA PB
                  obtain ⟨⟨xns, xds⟩, at', er⟩ := R
                  simp only at PA PB
                  clear hR
                  go_wp2_with fail
                  refine PA.out.mono ?_; rintro e W6 ⟨a6, N6, c6, b6, M6, d6, rfl, hn6, bb6⟩
                  have bx6 := below_box W6 (.cells #[.slice a6 N6 c6, .slice b6 M6 d6] 26)
                  have bq6 := bb6.trans (bx6.mono bb6.size)
                  have nt6 := NtAt.new W6 (.slice a6 N6 c6) (.slice b6 M6 d6) 26
                  obtain ⟨p6, hp6⟩ : ∃ p, W6.heap.size = p := ⟨_, rfl⟩
                  have hp8 : p6 ≠ bd := by have := (gmk.out.by_below bb6).lt; omega
                  obtain ⟨W7, hW7⟩ : ∃ W, W6.alloc (.cells #[.slice a6 N6 c6, .slice b6 M6 d6] 26) = W := ⟨_, rfl⟩
                  have hn7 := hn6.below bx6
                  rw [hW7] at nt6 bq6 hn7
                  rw [hp6] at nt6
                  have NT7 := Lib.hid nt6
                  have NI7 := Lib.hid hn7
                  have GM7 := Lib.hid (gmk.out.by_below bq6)
                  have GB7 := Lib.hid (gb_be gbk.out bq6)
                  clear hn6 bb6 bx6 bq6 nt6 hn7 cy
                  go_wp2_with fail
                  clear hW7 hp6
                  refine (PB.out W7).mono ?_; rintro e W9 ⟨a9, N9, c9, b9, M9, d9, rfl, hn9, bb9⟩
                  have bx9 := below_box W9 (.cells #[.slice a9 N9 c9, .slice b9 M9 d9] 26)
                  have bq9 := bb9.trans (bx9.mono bb9.size)
                  have nt9 := NtAt.new W9 (.slice a9 N9 c9) (.slice b9 M9 d9) 26
                  obtain ⟨p9, hp9⟩ : ∃ p, W9.heap.size = p := ⟨_, rfl⟩
                  have hq8 : p9 ≠ bd := by have := (GM7.out.by_below bb9).lt; omega
                  obtain ⟨WB, hWB⟩ : ∃ W, W9.alloc (.cells #[.slice a9 N9 c9, .slice b9 M9 d9] 26) = W := ⟨_, rfl⟩
                  have hn10 := hn9.below bx9
                  rw [hWB] at nt9 bq9 hn10
                  rw [hp9] at nt9
                  have NI9 := Lib.hid hn10
                  have NI6 := Lib.hid (NI7.out.below bq9)
                  have GM9 := Lib.hid (GM7.out.by_below bq9)
                  have GBB := Lib.hid (gb_be GB7.out bq9)
                  obtain ⟨q0, q1, -⟩ := NT7.out.below bq9 NT7.out.2.2
                  obtain ⟨p0, p1, -⟩ := nt9
                  have SB := Lib.hid (rsame_is a6 b6 a9 b9 N6 c6 M6 d6 N9 c9 M9 d9 xns xns xds xds true)
                  clear hn9 bb9 bx9 bq9 hn10
                  go_wp2_with fail
                  clear hWB hp9
                  refine (SB.out _ NI6.out NI9.out (by simp)).mono ?_; rintro e w5 ⟨rfl, b5⟩
                  have GBE := Lib.hid (gb_be GBB.out b5)
                  have GME := Lib.hid (GM9.out.by_below b5)
                  clear b5 q0 q1 p0 p1
                  go_wp2
                  go_roundw
                  case rel => exact ⟨k + 1, by omega, by go_num, GBE, GME⟩
                  case measure => simp [intOf]; omega
                · obtain rfl : k = 5 := by omega
                  go_wp2_with fail
                  refine (awake_is _ (H8.out _ gmk.out).tabs.cls).mono ?_; rintro e w4 ⟨rfl, b4⟩
                  have BZ := Lib.hid (B0.out.trans ((gmk.out.below.trans (b4.mono gmk.out.below.size)).mono B0.out.size))
                  clear b4
                  go_wp2
                  go_ret
                  exact ⟨rfl, BZ.out⟩
      · have t5 : decide ((2000 : Int) < (s.size : Int)) = true := decide_eq_true (by omega)
        clear h4 h5
        go_wp2_with fail
        refine (awake_is _ (H.out.below B0.out).tabs.cls).mono ?_; rintro e w4 ⟨rfl, b4⟩
        have BZ := Lib.hid (B0.out.trans (b4.mono B0.out.size))
        clear b4
        go_wp2
        go_ret
        exact ⟨rfl, BZ.out⟩
  · have t1 : decide ((len : Int) ≤ 400) = false := decide_eq_false (by omega)
    clear h4 LI
    go_enter Tryd.func3, Tryd.ntmps3
    go_wp2_with fail
    refine (few_any _ _ _ _ hl).mono ?_; rintro e w' ⟨rfl, rfl⟩
    go_wp2_with fail
    refine (awake_is _ (H.out.below BX.out).tabs.cls).mono ?_; rintro e w4 ⟨rfl, b4⟩
    have BZ := Lib.hid (BX.out.trans (b4.mono BX.out.size))
    clear b4
    go_wp2
    go_ret
    exact ⟨rfl, BZ.out⟩
end Go.Proofs.YtdgllaiejhnjmaaDoor.mod
