/- For every list of numbers and every text of at most 2000 bytes ModeltextReturns returns true: networks survive their texts, also with spaces and remarks in them, and what is read is printed and read again as the same. Condition: the tables hold what the program's text lays (the card ties that). -/
import Derived.Test.YtdgllaiejhnjmaaDoorMdX
import Derived.Test.YtdgllaiejhnjmaaDoorMdT
import Derived.Test.YtdgllaiejhnjmaaDoorMdD
import Derived.Test.YtdgllaiejhnjmaaDoorMdW
import Derived.Test.YtdgllaiejhnjmaaDoorNtG
namespace Go.Proofs.YtdgllaiejhnjmaaDoor.mod
open Go.RowKit lex net aggs kit strs deck

/-- what is read without an error is valid -/
theorem runW_err : ∀ (W : List (List (List UInt8))) (i : Nat) (st : List Nd × List Dv), (runW i st W).2.2 ≠ 0 → (runW i st W).1 = ([], []) := by
  intro W
  induction W with
  | nil => intro i st h; exact absurd rfl h
  | cons ws r ih =>
    intro i st h
    rw [run_line] at h ⊢
    by_cases e : lineE st.1 ws = 0
    · rw [if_pos e] at h ⊢; exact ih _ _ h
    · rw [if_neg e]
theorem parse_ok {s : List UInt8} (h : (parseR s).2.2 = 0) : chk (parseR s).1.1 (parseR s).1.2 = 0 := by
  unfold parseR at h ⊢
  cases e : lines s with
  | none => rw [e] at h; exact absurd h (by decide)
  | some L =>
    rw [e] at h
    simp only at h ⊢
    by_cases h1 : (runW 0 ([], []) (L.map words)).2.2 = 0
    · rw [if_pos h1] at h ⊢
      by_cases h2 : chk (runW 0 ([], []) (L.map words)).1.1 (runW 0 ([], []) (L.map words)).1.2 = 0
      · rw [if_pos h2]; exact h2
      · rw [if_neg h2] at h; exact absurd h h2
    · rw [if_neg h1] at h; exact absurd h h1
theorem printT_len {ns : List Nd} {ds : List Dv} (hc : chk ns ds = 0) : (printT ns ds).length ≤ 133 * (ns.length + ds.length) := by
  obtain ⟨h1, h2⟩ := print_ln hc
  have := text_len h1
  show (textOf ((printW ns ds).map fun ws => Lib.join ws [32])).length ≤ _
  have h3 : (printW ns ds).length = ns.length + ds.length := by simp [printW]
  omega
theorem printT_sz {ns : List Nd} {ds : List Dv} (hc : chk ns ds = 0) : (bs (printT ns ds)).size ≤ 20000 := by
  have h1 := printT_len hc
  have h2 := chk_small hc
  rw [bs_size]; omega
theorem extract_one {t : ByteArray} {i : Nat} (hi : i < t.size) : t.extract i (i + 1) = bs [t[i]] := by
  rw [extract_bs]
  congr 1
  have hl : t.data.toList.length = t.size := by simp
  rw [List.drop_eq_getElem_cons (by rw [hl]; exact hi), show i + 1 - i = 1 from by omega]
  simp
  rfl
/-- the wide text, one step on -/
theorem wide_str {wl x : List UInt8} {wb : ByteArray} (h : wb = bs wl) : wb ++ bs x = bs (wl ++ x) := by rw [h, bs_append]
set_option maxRecDepth 100000 in
set_option maxHeartbeats 8000000 in
theorem returns_walk (a : Option Addr) (len cap : Nat) (zs : List Int) (s : ByteArray) (w : World) (hr : IsRow .i64 w a len cap zs) (hsz : s.size ≤ maxLen) (h : MTabs w) :
    Calls Tryd.prog 4 #[.slice a len cap, .string s] w fun e w' => e = .returned (.bool true) ∧ Below w.heap.size w w' := by
  have hl : len ≤ 9223372036854775807 := by
    rcases hr with ⟨_, h, _⟩ | ⟨_, _, h1, h2, _⟩
    · omega
    · unfold maxLen at h2; omega
  have H := Lib.hid h
  have HR := Lib.hid hr
  unfold maxLen at hsz
  clear h hr
  by_cases h4 : len ≤ 400
  · have t1 : decide ((len : Int) ≤ 400) = true := decide_eq_true (by omega)
    by_cases h5 : s.size ≤ 2000
    · have t5 : decide ((2000 : Int) < (s.size : Int)) = false := decide_eq_false (by omega)
      go_enter Tryd.func4, Tryd.ntmps4
      go_wp2_with fail
      refine (few_any _ _ _ _ hl).mono ?_; rintro e w' ⟨rfl, rfl⟩
      go_wp2_with fail
      refine (newg_any _ _ _ _).mono ?_; rintro e w1 ⟨rfl, g1⟩
      have hbw := g1.lt
      obtain ⟨bd, hbd⟩ : ∃ b, w.heap.size = b := ⟨_, rfl⟩
      have HB := Lib.hid hbd
      rw [hbd] at hbw g1 ⊢
      clear hbd
      go_wp2_with fail
      refine (network_is (nodes := 8) (devices := 14) g1 HR.out (by decide) (by decide) (by decide) (by decide)).mono ?_
      rintro e W2 ⟨vn, vd, ns, ds, rfl, g2, rn, rd, gn, gd, n1, n2, d1, d2⟩
      obtain ⟨an, cn, ad, cd, rfl, rfl, ni, z1, z2⟩ := rows_net rn rd (by omega) gn gd hbw
      have hch := good_chk (by omega) (by omega) gn gd
      have CH := Lib.hid hch
      have hpl := printT_len hch
      have ept : prT ns ds = printT ns ds := if_pos hch
      have PPR := Lib.hid (parse_print hch)
      have PWD := Lib.hid (fun wl (hw : Wide (printT ns ds) wl) (hl : wl.length ≤ 65536) => parse_wide hch hw hl)
      obtain ⟨N, hN⟩ : ∃ N, ns.length = N := ⟨_, rfl⟩
      obtain ⟨M, hM⟩ : ∃ M, ds.length = M := ⟨_, rfl⟩
      rw [hN] at n1 n2 ni hpl ⊢
      rw [hM] at d1 d2 ni hpl ⊢
      have bx3 := below_box W2 (.cells #[.slice an N cn, .slice ad M cd] 26)
      obtain ⟨W3, hW3⟩ : ∃ W3, W2.alloc (.cells #[.slice an N cn, .slice ad M cd] 26) = W3 := ⟨_, rfl⟩
      obtain ⟨g, hg⟩ : ∃ g, W2.heap.size = g := ⟨_, rfl⟩
      have hNT := NtAt.new W2 (.slice an N cn) (.slice ad M cd) 26
      have g3 := g2.alloc (.cells #[.slice an N cn, .slice ad M cd] 26)
      rw [hg] at hNT
      have hgb : g ≠ bd := by rw [← hg]; exact Nat.ne_of_gt g2.lt
      have HM3 := H.out.below (g2.below.trans (bx3.mono g2.below.size))
      have ni3 := ni.below bx3
      rw [hW3] at hNT g3 HM3 ni3
      have RP := print_is an ad N cn M cd ns ds _ HM3 ni3
      rw [ept, hch] at RP
      obtain ⟨t, ht⟩ : ∃ t, bs (printT ns ds) = t := ⟨_, rfl⟩
      rw [ht] at RP
      have htd : t.data.toList = printT ns ds := by rw [← ht, bs_data]
      have hts : t.size ≤ 133 * (N + M) := by rw [← ht, bs_size]; exact hpl
      have hts2 : t.size ≤ 2926 := by omega
      have HTD := Lib.hid htd
      have RP := Lib.hid RP
      have NT := Lib.hid hNT
      have G3 := Lib.hid g3
      have NFX : Hid (NF W3 bd an ad N cn M cd ns ds) := ⟨ni3, z1, z2⟩
      clear rn rd gn gd hN hM z1 z2 g1 g2 hbw hch ept ht htd hNT ni ni3 HM3 hpl hts g3 bx3
      obtain ⟨q0, q1, -⟩ := NT.out
      go_wp2_with fail
      refine RP.out.mono ?_; rintro e W4 ⟨rfl, b4⟩
      have G4 := Lib.hid (G3.out.by_below b4)
      have NF4 : Hid (NF W4 bd an ad N cn M cd ns ds) := ⟨NFX.out.1.below b4, NFX.out.2⟩
      have NT4 := Lib.hid (NT.out.below b4 NT.out.2.2)
      clear b4 hW3 hg RP G3 NFX NT q0 q1
      go_wp2_with fail
      go_loopw [9, 10] (fun tv iv wr => ∃ (i : Nat) (wb : ByteArray), i ≤ t.size ∧ iv = .int .i64 i ∧ tv = .string wb ∧ wb.size ≤ 11 * i ∧ Hid (∃ wl, wb = bs wl ∧ WInv t.data.toList i wl) ∧ Hid (Game w wr bd a len cap) ∧ Hid (W4.grownBy wr (some bd))) (fun _ iv _ => t.size - (intOf iv).toNat)
      case atStart => exact ⟨0, _, Nat.zero_le _, rfl, rfl, by simp [ByteArray.size], ⟨[], rfl, WInv.start _⟩, G4, gb_refl _ _⟩
      case round =>
        clear G4
        obtain ⟨i, wb, hit, rfl, rfl, hwb, hinv, gm, gb⟩ := hrel
        have hlt : t.data.toList.length = t.size := by simp
        by_cases hi : i < t.size
        · obtain ⟨x, hx⟩ : ∃ x, t.extract i (i + 1) = x := ⟨_, rfl⟩
          have hxb : x = bs [t[i]] := by rw [← hx]; exact extract_one hi
          have hxs : x.size = 1 := by rw [hxb, bs_size]; rfl
          have hil : i < t.data.toList.length := by rw [hlt]; exact hi
          have hc : t.data.toList[i] = t[i] := by simp; rfl
          have WX : Hid (∀ wl, WInv t.data.toList i wl → wb = bs wl → ∃ wl', wb ++ x = bs wl' ∧ wl' = wl ++ [t[i]]) := fun wl _ e => ⟨_, by rw [hxb]; exact wide_str e, rfl⟩
          have SP : Hid (∀ wl', bs wl' ++ (⟨#[32]⟩ : ByteArray) = bs (wl' ++ [32])) := fun wl' => bs_append wl' [32]
          have RM : Hid (∀ wl', bs wl' ++ (⟨#[35, 32, 114, 101, 109, 97, 114, 107, 10]⟩ : ByteArray) = bs (wl' ++ remark)) := fun wl' => bs_append wl' remark
          have CH : Hid (∀ wl, WInv t.data.toList i wl → WInv t.data.toList (i + 1) (wl ++ [t[i]])) := fun wl h => by rw [← hc]; exact h.ch hil
          have szr : (⟨#[35, 32, 114, 101, 109, 97, 114, 107, 10]⟩ : ByteArray).size = 9 := rfl
          have szs : (⟨#[32]⟩ : ByteArray).size = 1 := rfl
          obtain ⟨y, hy⟩ : ∃ y, wb ++ x = y := ⟨_, rfl⟩
          have hys : y.size = wb.size + 1 := by rw [← hy, ByteArray.size_append, hxs]
          have YI : Hid (∃ wl, WInv t.data.toList i wl ∧ y = bs (wl ++ [t[i]])) := by
            obtain ⟨wl, e, hw⟩ := hinv.out
            obtain ⟨wl', e1, e2⟩ := WX.out wl hw e
            exact ⟨wl, hw, by rw [← hy, e1, e2]⟩
          clear hxb WX hinv
          by_cases q32 : t[i] = 32
          · have T32 : ((t[i].toNat : Int) == 32) = true := by rw [q32]; rfl
            have T10 : ((t[i].toNat : Int) == 10) = false := by rw [q32]; rfl
            have SPC : Hid (∀ wl, WInv t.data.toList i wl → WInv t.data.toList (i + 1) ((wl ++ [t[i]]) ++ [32])) := fun wl h => by rw [q32]; exact h.sp hil (by rw [hc]; exact q32)
            clear q32 hc
            go_wp2_with fail
            refine (one_is gm.out HR.out 3 (by decide)).mono ?_; rintro e W5 ⟨r, rfl, gm5, gb5⟩
            have GM := Lib.hid gm5
            have GB := Lib.hid (gb_tr gb.out gb5)
            clear gm5 gb5
            cases r
            · go_wp2
              go_roundw
              case rel =>
                obtain ⟨wl, hw, e⟩ := YI.out
                exact ⟨i + 1, y, by omega, by go_num, rfl, by omega, ⟨_, e, CH.out wl hw⟩, GM, GB⟩
              case measure => simp [intOf]; omega
            · go_wp2
              go_roundw
              case rel =>
                obtain ⟨wl, hw, e⟩ := YI.out
                exact ⟨i + 1, y ++ ⟨#[32]⟩, by omega, by go_num, rfl, by rw [ByteArray.size_append]; omega, ⟨_, by rw [e]; exact SP.out _, SPC.out wl hw⟩, GM, GB⟩
              case measure => simp [intOf]; omega
          · by_cases q10 : t[i] = 10
            · have T32 : ((t[i].toNat : Int) == 32) = false := by rw [q10]; rfl
              have T10 : ((t[i].toNat : Int) == 10) = true := by rw [q10]; rfl
              have LEA : Hid (∀ wl, i + 1 < t.size → WInv t.data.toList i wl → WInv t.data.toList (i + 1) ((wl ++ [t[i]]) ++ [32])) := fun wl hl h => by rw [q10]; exact h.lead (by rw [hlt]; exact hl) (by rw [hc]; exact q10)
              have REM : Hid (∀ wl, WInv t.data.toList i wl → WInv t.data.toList (i + 1) ((wl ++ [t[i]]) ++ remark)) := fun wl h => by rw [q10]; exact h.rem hil (by rw [hc]; exact q10)
              have LRE : Hid (∀ wl, i + 1 < t.size → WInv t.data.toList i wl → WInv t.data.toList (i + 1) (((wl ++ [t[i]]) ++ [32]) ++ remark)) := fun wl hl h => by rw [q10]; exact h.lrem (by rw [hlt]; exact hl) (by rw [hc]; exact q10)
              clear q10 q32 hc
              by_cases hlast : i + 1 < t.size
              · have TL : decide (((i : Int) + 1) < (t.size : Int)) = true := decide_eq_true (by omega)
                go_wp2_with fail
                refine (one_is gm.out HR.out 4 (by decide)).mono ?_; rintro e W5 ⟨r, rfl, gm5, gb5⟩
                have GM := Lib.hid gm5
                have GB := Lib.hid (gb_tr gb.out gb5)
                clear gm5 gb5
                cases r
                · go_wp2_with fail
                  refine (one_is GM.out HR.out 4 (by decide)).mono ?_; rintro e W6 ⟨r, rfl, gm6, gb6⟩
                  have GM6 := Lib.hid gm6
                  have GB6 := Lib.hid (gb_tr GB.out gb6)
                  clear gm6 gb6
                  cases r
                  · go_wp2
                    go_roundw
                    case rel =>
                      obtain ⟨wl, hw, e⟩ := YI.out
                      exact ⟨i + 1, y, by omega, by go_num, rfl, by omega, ⟨_, e, CH.out wl hw⟩, GM6, GB6⟩
                    case measure => simp [intOf]; omega
                  · go_wp2
                    go_roundw
                    case rel =>
                      obtain ⟨wl, hw, e⟩ := YI.out
                      exact ⟨i + 1, y ++ ⟨#[35, 32, 114, 101, 109, 97, 114, 107, 10]⟩, by omega, by go_num, rfl, by rw [ByteArray.size_append]; omega, ⟨_, by rw [e]; exact RM.out _, REM.out wl hw⟩, GM6, GB6⟩
                    case measure => simp [intOf]; omega
                · go_wp2_with fail
                  refine (one_is GM.out HR.out 4 (by decide)).mono ?_; rintro e W6 ⟨r, rfl, gm6, gb6⟩
                  have GM6 := Lib.hid gm6
                  have GB6 := Lib.hid (gb_tr GB.out gb6)
                  clear gm6 gb6
                  cases r
                  · go_wp2
                    go_roundw
                    case rel =>
                      obtain ⟨wl, hw, e⟩ := YI.out
                      exact ⟨i + 1, y ++ ⟨#[32]⟩, by omega, by go_num, rfl, by rw [ByteArray.size_append]; omega, ⟨_, by rw [e]; exact SP.out _, LEA.out wl hlast hw⟩, GM6, GB6⟩
                    case measure => simp [intOf]; omega
                  · go_wp2
                    go_roundw
                    case rel =>
                      obtain ⟨wl, hw, e⟩ := YI.out
                      exact ⟨i + 1, (y ++ ⟨#[32]⟩) ++ ⟨#[35, 32, 114, 101, 109, 97, 114, 107, 10]⟩, by omega, by go_num, rfl, by rw [ByteArray.size_append, ByteArray.size_append]; omega, ⟨_, by rw [e, SP.out]; exact RM.out _, LRE.out wl hlast hw⟩, GM6, GB6⟩
                    case measure => simp [intOf]; omega
              · have TL : decide (((i : Int) + 1) < (t.size : Int)) = false := decide_eq_false (by omega)
                go_wp2_with fail
                refine (one_is gm.out HR.out 4 (by decide)).mono ?_; rintro e W6 ⟨r, rfl, gm6, gb6⟩
                have GM6 := Lib.hid gm6
                have GB6 := Lib.hid (gb_tr gb.out gb6)
                clear gm6 gb6
                cases r
                · go_wp2
                  go_roundw
                  case rel =>
                    obtain ⟨wl, hw, e⟩ := YI.out
                    exact ⟨i + 1, y, by omega, by go_num, rfl, by omega, ⟨_, e, CH.out wl hw⟩, GM6, GB6⟩
                  case measure => simp [intOf]; omega
                · go_wp2
                  go_roundw
                  case rel =>
                    obtain ⟨wl, hw, e⟩ := YI.out
                    exact ⟨i + 1, y ++ ⟨#[35, 32, 114, 101, 109, 97, 114, 107, 10]⟩, by omega, by go_num, rfl, by rw [ByteArray.size_append]; omega, ⟨_, by rw [e]; exact RM.out _, REM.out wl hw⟩, GM6, GB6⟩
                  case measure => simp [intOf]; omega
            · have T32 : ((t[i].toNat : Int) == 32) = false := beq_eq_false_iff_ne.2 (fun k => q32 (UInt8.toNat_inj.1 (by have : t[i].toNat = 32 := by omega
                                                                                                                          rw [this]; rfl)))
              have T10 : ((t[i].toNat : Int) == 10) = false := beq_eq_false_iff_ne.2 (fun k => q10 (UInt8.toNat_inj.1 (by have : t[i].toNat = 10 := by omega
                                                                                                                          rw [this]; rfl)))
              clear q10 q32 hc
              go_wp2
              go_roundw
              case rel =>
                obtain ⟨wl, hw, e⟩ := YI.out
                exact ⟨i + 1, y, by omega, by go_num, rfl, by omega, ⟨_, e, CH.out wl hw⟩, gm, gb⟩
              case measure => simp [intOf]; omega
        · obtain rfl : t.size = i := by omega
          have hPW : parseR wb.data.toList = ((ns, ds), 0, 0) := by
            obtain ⟨wl, e, hw⟩ := hinv.out
            rw [e, bs_data]
            have hwid := WInv.done (t := t.data.toList) (by rw [hlt]; exact hw)
            rw [HTD.out] at hwid
            refine PWD.out wl hwid ?_
            have : wb.size = wl.length := by rw [e, bs_size]
            omega
          have hPP : parseR t.data.toList = ((ns, ds), 0, 0) := by rw [HTD.out]; exact PPR.out
          have PW := Lib.hid hPW
          have PP := Lib.hid hPP
          have NR := Lib.hid (NF4.out.keep gb.out)
          have NTR : Hid (NtAt wr g (.slice an N cn) (.slice ad M cd)) := ⟨gb_cell NT4.out.1 gb.out hgb, gb_cell NT4.out.2.1 gb.out hgb, Nat.lt_of_lt_of_le NT4.out.2.2 gb.out.size⟩
          have HMR := Lib.hid (fun W (b : Below wr.heap.size wr W) => H.out.below (gm.out.below.trans (b.mono gm.out.below.size)))
          have BEND := Lib.hid (fun W (b : Below wr.heap.size wr W) => gm.out.below.trans (b.mono gm.out.below.size))
          have P1 := Lib.hid (parse_is t wr (HMR.out wr (Below.refl _ _)).tabs.cls (by omega))
          have P2 := Lib.hid (fun W (b : Below wr.heap.size wr W) => parse_is wb W (HMR.out W b).tabs.cls (by omega))
          have P3 := Lib.hid (fun W (b : Below wr.heap.size wr W) => parse_is s W (HMR.out W b).tabs.cls (by omega))
          have AW := Lib.hid (fun W (b : Below wr.heap.size wr W) => awake_is W (HMR.out W b).tabs.cls)
          clear hPW hPP hinv hlt hit
          go_wp2_with fail
          refine P1.out.mono ?_; rintro e W5 ⟨a5, N5, c5, b5, M5, d5, rfl, hn5, bb5⟩
          rw [PP.out] at hn5 ⊢
          have bx5 := below_box W5 (.cells #[.slice a5 N5 c5, .slice b5 M5 d5] 26)
          have B5 := Lib.hid (bb5.trans (bx5.mono bb5.size))
          have NI5 := Lib.hid (hn5.below bx5)
          have hNT5 := NtAt.new W5 (.slice a5 N5 c5) (.slice b5 M5 d5) 26
          obtain ⟨W6, hW6⟩ : ∃ W6, W5.alloc (.cells #[.slice a5 N5 c5, .slice b5 M5 d5] 26) = W6 := ⟨_, rfl⟩
          obtain ⟨g5, hg5⟩ : ∃ z, W5.heap.size = z := ⟨_, rfl⟩
          rw [hg5] at hNT5
          rw [hW6] at B5 NI5 hNT5
          have NT5 := Lib.hid hNT5
          clear hn5 bx5 bb5 hNT5
          go_wp2_with fail
          refine (P2.out _ B5.out).mono ?_; rintro e W7 ⟨a7, N7, c7, b7, M7, d7, rfl, hn7, bb7⟩
          rw [PW.out] at hn7 ⊢
          have bx7 := below_box W7 (.cells #[.slice a7 N7 c7, .slice b7 M7 d7] 26)
          have bq7 := bb7.trans (bx7.mono bb7.size)
          have NI7 := Lib.hid (hn7.below bx7)
          have NT5b := Lib.hid (NT5.out.below bq7 NT5.out.2.2)
          have NI5b := Lib.hid (NI5.out.below bq7)
          have B7 := Lib.hid (B5.out.trans (bq7.mono B5.out.size))
          have hNT7 := NtAt.new W7 (.slice a7 N7 c7) (.slice b7 M7 d7) 26
          obtain ⟨W8, hW8⟩ : ∃ W8, W7.alloc (.cells #[.slice a7 N7 c7, .slice b7 M7 d7] 26) = W8 := ⟨_, rfl⟩
          obtain ⟨g7, hg7⟩ : ∃ z, W7.heap.size = z := ⟨_, rfl⟩
          rw [hg7] at hNT7
          rw [hW8] at B7 NI7 hNT7 NI5b NT5b
          have NT7 := Lib.hid hNT7
          obtain ⟨x0, x1, -⟩ := NT5b.out
          obtain ⟨x2, x3, -⟩ := hNT7
          obtain ⟨x4, x5, -⟩ := NTR.out.below B7.out NTR.out.2.2
          have SM := Lib.hid (same_is a5 b5 an ad N5 c5 M5 d5 N cn M cd ns ns ds ds true W8 (HMR.out W8 B7.out).tabs.cls NI5b.out (NR.out.below B7.out) ⟨fun _ => ⟨CH.out, rfl, rfl⟩, fun _ => rfl⟩)
          clear hn7 bx7 bb7 bq7 hW6 hg5 NT5 NI5
          go_wp2_with fail
          refine SM.out.mono ?_; rintro e W9 ⟨rfl, b9⟩
          have B9 := Lib.hid (B7.out.trans (b9.mono B7.out.size))
          obtain ⟨y2, y3, -⟩ := NT7.out.below b9 NT7.out.2.2
          obtain ⟨y4, y5, -⟩ := NTR.out.below B9.out NTR.out.2.2
          have SR := Lib.hid (rsame_is a7 b7 an ad N7 c7 M7 d7 N cn M cd ns ns ds ds true W9 (NI7.out.below b9) (NR.out.below B9.out) ⟨fun _ => ⟨rfl, rfl⟩, fun _ => rfl⟩)
          clear b9 x0 x1 x2 x3 x4 x5 hW8 hg7
          go_wp2_with fail
          refine SR.out.mono ?_; rintro e W10 ⟨rfl, b10⟩
          have B10 := Lib.hid (B9.out.trans (b10.mono B9.out.size))
          clear b10 y2 y3 y4 y5
          go_wp2_with fail
          refine (P3.out _ B10.out).mono ?_; rintro e W11 ⟨a11, N11, c11, b11, M11, d11, rfl, hn11, bb11⟩
          have POK := Lib.hid (parse_ok (s := s.data.toList))
          obtain ⟨E, hE⟩ : ∃ E, (parseR s.data.toList).2.2 = E := ⟨_, rfl⟩
          rw [hE] at POK ⊢
          obtain ⟨ln, hln⟩ : ∃ z, (parseR s.data.toList).2.1 = z := ⟨_, rfl⟩
          rw [hln]
          generalize (parseR s.data.toList).1.1 = xs at *
          generalize (parseR s.data.toList).1.2 = ys at *
          have bx11 := below_box W11 (.cells #[.slice a11 N11 c11, .slice b11 M11 d11] 26)
          have bq11 := bb11.trans (bx11.mono bb11.size)
          have B11 := Lib.hid (B10.out.trans (bq11.mono B10.out.size))
          have NI11 := Lib.hid (hn11.below bx11)
          have hNT11 := NtAt.new W11 (.slice a11 N11 c11) (.slice b11 M11 d11) 26
          obtain ⟨W12, hW12⟩ : ∃ W12, W11.alloc (.cells #[.slice a11 N11 c11, .slice b11 M11 d11] 26) = W12 := ⟨_, rfl⟩
          obtain ⟨g11, hg11⟩ : ∃ z, W11.heap.size = z := ⟨_, rfl⟩
          rw [hg11] at hNT11
          rw [hW12] at B11 NI11 hNT11
          have NT11 := Lib.hid hNT11
          clear hE hln hn11 bx11 bb11 bq11
          by_cases e0 : E = 0
          · have hc11 := POK.out e0
            subst e0
            have ept : prT xs ys = printT xs ys := if_pos hc11
            have RP := print_is a11 b11 N11 c11 M11 d11 xs ys W12 (HMR.out W12 B11.out) NI11.out
            rw [ept, hc11] at RP
            have PP2 : Hid (parseR (bs (printT xs ys)).data.toList = ((xs, ys), 0, 0)) := by show _ = _; rw [bs_data]; exact parse_print hc11
            have hps := printT_sz hc11
            obtain ⟨u, hu⟩ : ∃ u, bs (printT xs ys) = u := ⟨_, rfl⟩
            rw [hu] at RP PP2 hps
            have P4 := Lib.hid (fun W (b : Below wr.heap.size wr W) => parse_is u W (HMR.out W b).tabs.cls (by omega))
            have RP := Lib.hid RP
            obtain ⟨x0, x1, -⟩ := hNT11
            clear hu ept hc11
            go_wp2_with fail
            refine RP.out.mono ?_; rintro e W13 ⟨rfl, b13⟩
            have B13 := Lib.hid (B11.out.trans (b13.mono B11.out.size))
            have NT13 := Lib.hid (NT11.out.below b13 NT11.out.2.2)
            have NI13 := Lib.hid (NI11.out.below b13)
            clear b13 x0 x1 hW12 hg11
            go_wp2_with fail
            refine (P4.out _ B13.out).mono ?_; rintro e W14 ⟨a14, N14, c14, b14, M14, d14, rfl, hn14, bb14⟩
            rw [PP2.out] at hn14 ⊢
            have bx14 := below_box W14 (.cells #[.slice a14 N14 c14, .slice b14 M14 d14] 26)
            have bq14 := bb14.trans (bx14.mono bb14.size)
            have B14 := Lib.hid (B13.out.trans (bq14.mono B13.out.size))
            obtain ⟨x0, x1, -⟩ := NT13.out.below bq14 NT13.out.2.2
            obtain ⟨x2, x3, -⟩ := NtAt.new W14 (.slice a14 N14 c14) (.slice b14 M14 d14) 26
            have SR2 := Lib.hid (rsame_is a11 b11 a14 b14 N11 c11 M11 d11 N14 c14 M14 d14 xs xs ys ys true _ (NI13.out.below bq14) (hn14.below bx14) ⟨fun _ => ⟨rfl, rfl⟩, fun _ => rfl⟩)
            clear hn14 bx14 bb14 bq14
            go_wp2_with fail
            refine SR2.out.mono ?_; rintro e W15 ⟨rfl, b15⟩
            have B15 := Lib.hid (B14.out.trans (b15.mono B14.out.size))
            clear b15 x0 x1 x2 x3
            go_wp2_with fail
            refine (AW.out _ B15.out).mono ?_; rintro e W16 ⟨rfl, b16⟩
            have BZ := Lib.hid (BEND.out _ (B15.out.trans (b16.mono B15.out.size)))
            clear b16
            go_wp2
            go_ret
            exact ⟨rfl, BZ.out⟩
          · have TE : (E == 0) = false := beq_eq_false_iff_ne.2 e0
            clear e0
            go_wp2_with fail
            refine (AW.out _ B11.out).mono ?_; rintro e W16 ⟨rfl, b16⟩
            have BZ := Lib.hid (BEND.out _ (B11.out.trans (b16.mono B11.out.size)))
            clear b16
            go_wp2
            go_ret
            exact ⟨rfl, BZ.out⟩
    · have t5 : decide ((2000 : Int) < (s.size : Int)) = true := decide_eq_true (by omega)
      go_enter Tryd.func4, Tryd.ntmps4
      go_wp2_with fail
      refine (few_any _ _ _ _ hl).mono ?_; rintro e w' ⟨rfl, rfl⟩
      go_wp2_with fail
      refine (awake_is _ H.out.tabs.cls).mono ?_; rintro e w4 ⟨rfl, b4⟩
      have BZ := Lib.hid b4
      clear b4
      go_wp2
      go_ret
      exact ⟨rfl, BZ.out⟩
  · have t1 : decide ((len : Int) ≤ 400) = false := decide_eq_false (by omega)
    go_enter Tryd.func4, Tryd.ntmps4
    go_wp2_with fail
    refine (few_any _ _ _ _ hl).mono ?_; rintro e w' ⟨rfl, rfl⟩
    go_wp2_with fail
    refine (awake_is _ H.out.tabs.cls).mono ?_; rintro e w4 ⟨rfl, b4⟩
    have BZ := Lib.hid b4
    clear b4
    go_wp2
    go_ret
    exact ⟨rfl, BZ.out⟩
end Go.Proofs.YtdgllaiejhnjmaaDoor.mod
