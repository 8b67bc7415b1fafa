/- For every list of numbers and every number below 256 ModeltextErrors returns true: a wrong line is told by its number, the first one of several. Condition: the tables hold what the program's text lays (the card ties that). -/
import Derived.Test.YtdgllaiejhnjmaaDoorMdX
import Derived.Test.YtdgllaiejhnjmaaDoorMdR
import Derived.Test.YtdgllaiejhnjmaaDoorNetN
namespace Go.Proofs.YtdgllaiejhnjmaaDoor.mod
open Go.RowKit lex net aggs kit strs deck

theorem n99_is : bs wN99 = nmB 78 99 := by kernel_rfl
theorem no_n99 {ns : List Nd} (h : GoodN ns) (hl : ns.length ≤ 10) : fnd (nmsN ns) (bs wN99) = -1 := fnd_none (fun i hi e => by
  have hi' : i < ns.length := by simpa [nmsN] using hi
  have e2 : (ns[i]).nm = nmB 78 99 := by rw [← n99_is, ← e]; simp [nmsN]
  rw [(h i hi').1] at e2
  have := (nmB_inj (by omega) (by decide) e2).2
  omega)
theorem bad_is (q : Nat) (hq : q < 6) : (#[.string ⟨#[110, 111, 100, 101, 32, 88, 32, 99, 117, 115, 116, 111, 109, 101, 114, 115, 32, 49, 10]⟩, .string ⟨#[98, 114, 101, 97, 107, 101, 114, 32, 88, 32, 78, 48, 48, 32, 99, 111, 109, 112, 97, 110, 121, 32, 48, 10]⟩, .string ⟨#[108, 105, 110, 101, 32, 88, 32, 78, 48, 48, 32, 78, 57, 57, 32, 99, 111, 109, 112, 97, 110, 121, 32, 48, 10]⟩, .string ⟨#[101, 97, 114, 116, 104, 32, 88, 32, 78, 48, 48, 32, 99, 111, 109, 112, 97, 110, 121, 32, 48, 55, 10]⟩, .string ⟨#[115, 119, 105, 116, 99, 104, 32, 88, 32, 78, 48, 48, 32, 99, 111, 109, 112, 97, 110, 121, 32, 48, 10]⟩, .string ⟨#[110, 111, 100, 101, 32, 88, 32, 99, 117, 115, 116, 111, 109, 101, 114, 115, 32, 45, 49, 32, 99, 111, 109, 112, 97, 110, 121, 32, 48, 10]⟩] : Array Value)[q]? = some (.string (bs (badT q))) := by
  rcases (show q = 0 ∨ q = 1 ∨ q = 2 ∨ q = 3 ∨ q = 4 ∨ q = 5 by omega) with rfl | rfl | rfl | rfl | rfl | rfl <;> kernel_rfl
theorem bad_size (q : Nat) (hq : q < 6) : (bs (badT q)).size ≤ 200 := by
  have := bad_ln q hq
  exact Nat.le_trans (line_size this) (by decide)
theorem printT_size {ns : List Nd} {ds : List Dv} (hc : chk ns ds = 0) : (bs (printT ns ds)).size ≤ 20000 := by
  obtain ⟨h1, h2⟩ := print_ln hc
  have := text_len h1
  rw [bs_size]
  show (textOf ((printW ns ds).map fun ws => Lib.join ws [32])).length ≤ 20000
  omega
set_option maxRecDepth 100000 in
set_option maxHeartbeats 8000000 in
theorem errors_walk (a : Option Addr) (len cap : Nat) (zs : List Int) (which : Int) (w : World) (hr : IsRow .i64 w a len cap zs) (h0 : 0 ≤ which) (_h1 : which ≤ 255) (h : HasClasses w) :
    Calls Tryd.prog 6 #[.slice a len cap, .int .u8 which] w fun e w' => e = .returned (.bool true) ∧ Below w.heap.size w w' := by
  have hl : len ≤ 9223372036854775807 := by
    rcases hr with ⟨_, h, _⟩ | ⟨_, _, h1, h2, _⟩
    · omega
    · unfold maxLen at h2; omega
  have H := Lib.hid h
  have HR := Lib.hid hr
  clear h hr
  by_cases h4 : len ≤ 400
  · have t1 : decide ((len : Int) ≤ 400) = true := decide_eq_true (by omega)
    obtain ⟨q, hq6, hq⟩ : ∃ q : Nat, q < 6 ∧ which.tmod 6 = q := ⟨(which.tmod 6).toNat, by have := Int.tmod_eq_emod_of_nonneg (b := 6) h0; omega, by have := Int.tmod_eq_emod_of_nonneg (b := 6) h0; omega⟩
    obtain ⟨y, hy⟩ : ∃ y, bs (badT q) = y := ⟨_, rfl⟩
    have hya := bad_is q hq6
    rw [hy] at hya
    have hys := bad_size q hq6
    rw [hy] at hys
    have HY := Lib.hid hy
    have hq6i : (q : Int) < 6 := by omega
    have HQ6 := Lib.hid hq6
    clear hy hq6
    go_enter Tryd.func6, Tryd.ntmps6
    go_wp2_with fail
    refine (few_any _ _ _ _ hl).mono ?_; rintro e w' ⟨rfl, rfl⟩
    go_wp2_with fail
    refine (newg_any _ _ _ _).mono ?_; rintro e w1 ⟨rfl, g1⟩
    have hbw := g1.lt
    obtain ⟨bd, hbd⟩ : ∃ b, w.heap.size = b := ⟨_, rfl⟩
    have HB := Lib.hid hbd
    rw [hbd] at hbw g1 ⊢
    clear hbd
    go_wp2_with fail
    refine (network_is (nodes := 5) (devices := 8) g1 HR.out (by decide) (by decide) (by decide) (by decide)).mono ?_
    rintro e W2 ⟨vn, vd, ns, ds, rfl, g2, rn, rd, gn, gd, n1, n2, d1, d2⟩
    obtain ⟨an, cn, ad, cd, rfl, rfl, ni, z1, z2⟩ := rows_net rn rd (by omega) gn gd hbw
    have hch := good_chk (by omega) (by omega) gn gd
    have CH := Lib.hid hch
    have PE := Lib.hid (parse_bad_end hch (no_n99 gn (by omega)) q HQ6.out)
    have PF := Lib.hid (parse_bad_first hch q HQ6.out)
    have hts := printT_size hch
    obtain ⟨N, hN⟩ : ∃ N, ns.length = N := ⟨_, rfl⟩
    obtain ⟨M, hM⟩ : ∃ M, ds.length = M := ⟨_, rfl⟩
    rw [hN] at n1 n2 ni PE ⊢
    rw [hM] at d1 d2 ni PE ⊢
    have BG := Lib.hid g2.below
    have bx3 := below_box W2 (.cells #[.slice an N cn, .slice ad M cd] 26)
    obtain ⟨g, hg⟩ : ∃ g, W2.heap.size = g := ⟨_, rfl⟩
    have hNT := NtAt.new W2 (.slice an N cn) (.slice ad M cd) 26
    rw [hg] at hNT
    have BW3 := Lib.hid (g2.below.trans (bx3.mono g2.below.size))
    have RP := rprint_is an ad N cn M cd ns ds _ (ni.below bx3)
    have ept : prT ns ds = printT ns ds := if_pos hch
    rw [ept, hch] at RP
    obtain ⟨t, ht⟩ : ∃ t, bs (printT ns ds) = t := ⟨_, rfl⟩
    rw [ht] at RP hts
    have htd : t.data.toList = printT ns ds := by rw [← ht, bs_data]
    have hyd : y.data.toList = badT q := by rw [← HY.out, bs_data]
    have PE2 : Hid (parseR ((t ++ y) ++ y).data.toList = (([], []), N + M + 1, badE q)) := by
      show _ = _
      rw [ByteArray.data_append, ByteArray.data_append, Array.toList_append, Array.toList_append, htd, hyd]; exact PE.out
    have PF2 : Hid (parseR (y ++ t).data.toList = (([], []), 1, badE q)) := by
      show _ = _
      rw [ByteArray.data_append, Array.toList_append, htd, hyd]; exact PF.out
    have RP := Lib.hid RP
    have NT := Lib.hid hNT
    have HG := Lib.hid hg
    clear rn rd gn gd hN hM z1 z2 g1 hbw hch ept ht htd hyd PE PF hNT CH ni
    go_wp2_with fail
    refine RP.out.mono ?_; rintro e W4 ⟨rfl, b4⟩
    have B4 := Lib.hid (BW3.out.trans (b4.mono BW3.out.size))
    have hs3 : g < W4.heap.size := Nat.lt_of_lt_of_le NT.out.2.2 b4.size
    have N4 := Lib.hid (NT.out.below b4 NT.out.2.2)
    clear b4 bx3 hg
    obtain ⟨E, hE⟩ : ∃ E, badE q = E := ⟨_, rfl⟩
    rw [hE] at PE2 PF2
    have P1 := Lib.hid (fun W (b : Below w.heap.size w W) => parse_is ((t ++ y) ++ y) W (H.out.below b) (by rw [ByteArray.size_append, ByteArray.size_append]; omega))
    have P2 := Lib.hid (fun W (b : Below w.heap.size w W) => parse_is (y ++ t) W (H.out.below b) (by rw [ByteArray.size_append]; omega))
    have AW := Lib.hid (fun W (b : Below w.heap.size w W) => awake_is W (H.out.below b))
    have B5 := Lib.hid (B4.out.alloc B4.out.size (.cells #[.string ⟨#[110, 111, 100, 101, 32, 88, 32, 99, 117, 115, 116, 111, 109, 101, 114, 115, 32, 49, 10]⟩, .string ⟨#[98, 114, 101, 97, 107, 101, 114, 32, 88, 32, 78, 48, 48, 32, 99, 111, 109, 112, 97, 110, 121, 32, 48, 10]⟩, .string ⟨#[108, 105, 110, 101, 32, 88, 32, 78, 48, 48, 32, 78, 57, 57, 32, 99, 111, 109, 112, 97, 110, 121, 32, 48, 10]⟩, .string ⟨#[101, 97, 114, 116, 104, 32, 88, 32, 78, 48, 48, 32, 99, 111, 109, 112, 97, 110, 121, 32, 48, 55, 10]⟩, .string ⟨#[115, 119, 105, 116, 99, 104, 32, 88, 32, 78, 48, 48, 32, 99, 111, 109, 112, 97, 110, 121, 32, 48, 10]⟩, .string ⟨#[110, 111, 100, 101, 32, 88, 32, 99, 117, 115, 116, 111, 109, 101, 114, 115, 32, 45, 49, 32, 99, 111, 109, 112, 97, 110, 121, 32, 48, 10]⟩] 9))
    have N5 := Lib.hid (N4.out.alloc (.cells #[.string ⟨#[110, 111, 100, 101, 32, 88, 32, 99, 117, 115, 116, 111, 109, 101, 114, 115, 32, 49, 10]⟩, .string ⟨#[98, 114, 101, 97, 107, 101, 114, 32, 88, 32, 78, 48, 48, 32, 99, 111, 109, 112, 97, 110, 121, 32, 48, 10]⟩, .string ⟨#[108, 105, 110, 101, 32, 88, 32, 78, 48, 48, 32, 78, 57, 57, 32, 99, 111, 109, 112, 97, 110, 121, 32, 48, 10]⟩, .string ⟨#[101, 97, 114, 116, 104, 32, 88, 32, 78, 48, 48, 32, 99, 111, 109, 112, 97, 110, 121, 32, 48, 55, 10]⟩, .string ⟨#[115, 119, 105, 116, 99, 104, 32, 88, 32, 78, 48, 48, 32, 99, 111, 109, 112, 97, 110, 121, 32, 48, 10]⟩, .string ⟨#[110, 111, 100, 101, 32, 88, 32, 99, 117, 115, 116, 111, 109, 101, 114, 115, 32, 45, 49, 32, 99, 111, 109, 112, 97, 110, 121, 32, 48, 10]⟩] 9))
    obtain ⟨n0, n1', -⟩ := N5.out
    by_cases hq2 : q = 2
    · have hE3 : E = 3 := by rw [← hE, hq2]; rfl
      subst hE3
      have T2 : ((q : Int) == 2) = true := by rw [hq2]; rfl
      have T1 : ((q : Int) == 1) = false := by rw [hq2]; rfl
      clear hE hq2
      go_wp2_with fail
      refine (P1.out _ B5.out).mono ?_; rintro e W6 ⟨a6, N6, c6, b6, M6, d6, rfl, -, bb6⟩
      rw [PE2.out]
      have B6 := Lib.hid (B5.out.trans (bb6.mono B5.out.size))
      have B7 := Lib.hid (B6.out.alloc B6.out.size (.cells #[.slice a6 N6 c6, .slice b6 M6 d6] 26))
      clear bb6
      go_wp2_with fail
      refine (P2.out _ B7.out).mono ?_; rintro e W8 ⟨a8, N8, c8, b8, M8, d8, rfl, -, bb8⟩
      rw [PF2.out]
      have B8 := Lib.hid (B7.out.trans (bb8.mono B7.out.size))
      have B9 := Lib.hid (B8.out.alloc B8.out.size (.cells #[.slice a8 N8 c8, .slice b8 M8 d8] 26))
      have hw1 : IntKind.i64.wrap ((N : Int) + M) = ((N + M : Nat) : Int) := by rw [IntKind.wrap_i64]; omega
      have hw2 : IntKind.i64.wrap (((N + M : Nat) : Int) + 1) = ((N + M + 1 : Nat) : Int) := by rw [IntKind.wrap_i64]; omega
      clear bb8
      go_wp2_with fail
      refine (AW.out _ B9.out).mono ?_; rintro e W10 ⟨rfl, b10⟩
      have BZ := Lib.hid (B9.out.trans (b10.mono B9.out.size))
      clear b10
      go_wp2
      go_ret
      exact ⟨rfl, BZ.out⟩
    · have hE2 : E = 2 := by rw [← hE]; unfold badE; rw [if_neg hq2]
      subst hE2
      have T2 : ((q : Int) == 2) = false := beq_eq_false_iff_ne.2 (by omega)
      clear hE hq2
      go_wp2_with fail
      refine (P1.out _ B5.out).mono ?_; rintro e W6 ⟨a6, N6, c6, b6, M6, d6, rfl, -, bb6⟩
      rw [PE2.out]
      have B6 := Lib.hid (B5.out.trans (bb6.mono B5.out.size))
      have B7 := Lib.hid (B6.out.alloc B6.out.size (.cells #[.slice a6 N6 c6, .slice b6 M6 d6] 26))
      clear bb6
      go_wp2_with fail
      refine (P2.out _ B7.out).mono ?_; rintro e W8 ⟨a8, N8, c8, b8, M8, d8, rfl, -, bb8⟩
      rw [PF2.out]
      have B8 := Lib.hid (B7.out.trans (bb8.mono B7.out.size))
      have B9 := Lib.hid (B8.out.alloc B8.out.size (.cells #[.slice a8 N8 c8, .slice b8 M8 d8] 26))
      have hw1 : IntKind.i64.wrap ((N : Int) + M) = ((N + M : Nat) : Int) := by rw [IntKind.wrap_i64]; omega
      have hw2 : IntKind.i64.wrap (((N + M : Nat) : Int) + 1) = ((N + M + 1 : Nat) : Int) := by rw [IntKind.wrap_i64]; omega
      clear bb8
      go_wp2_with fail
      refine (AW.out _ B9.out).mono ?_; rintro e W10 ⟨rfl, b10⟩
      have BZ := Lib.hid (B9.out.trans (b10.mono B9.out.size))
      clear b10
      go_wp2
      go_ret
      exact ⟨rfl, BZ.out⟩
  · have t1 : decide ((len : Int) ≤ 400) = false := decide_eq_false (by omega)
    go_enter Tryd.func6, Tryd.ntmps6
    go_wp2_with fail
    refine (few_any _ _ _ _ hl).mono ?_; rintro e w' ⟨rfl, rfl⟩
    go_wp2_with fail
    refine (awake_is _ H.out).mono ?_; rintro e w4 ⟨rfl, b4⟩
    have BZ := Lib.hid b4
    clear b4
    go_wp2
    go_ret
    exact ⟨rfl, BZ.out⟩
end Go.Proofs.YtdgllaiejhnjmaaDoor.mod
