/- For every list of numbers, every list of spans and every two spans CalendarSpans returns true: the program's Valid, Overlap, Union and Minutes answer as the reference's. Condition: the listed tables hold what the program's text lays (the card ties that). -/
import Derived.Test.YticehhmfbpjamaaDoorCalF
import Derived.Test.YticehhmfbpjamaaDoorCalE
import Derived.Test.YticehhmfbpjamaaDoorCalC
namespace Go.Proofs.YticehhmfbpjamaaDoor.cal
open Go.RowKit lex uni aggs deck kit

theorem gb_none' (w : World) (row : Option Nat) : w.grownBy w row := gb_refl w row
/-- append of a slice that is nil or has cells, to a row of the call's own, at a step of a region that draws -/
theorem step_append_in {P : Program} {w : World} {ops : Array Oper} {o : Oper} {a : Act} {K : Act → World → Prop} {Q : Exit → Act → World → Prop} {E : Prop} (hgd : o.guard = none) (s x : Operand) (t : TypeId)
    (ho : o.op = .call { callee := .builtin .append, args := #[s, x], argTypes := #[t, t] })
    (base : Nat) (e : TypeId) (i : TypeInfo) (z : Value) (size bytes : Nat) (ht : P.underlying t = some (.slice e)) (hi : P.info? e = some i) (hz : i.zero = some z)
    (hsize : i.size = size) (hby : i.bytes = bytes) (hzs : z.cells.size = size) (hsz : 0 < size)
    (hs : a.eval s = .slice none 0 0)
    (ad : Option Addr) (m c : Nat) (news : List Value) (hx : a.eval x = .slice ad m c) (hin : (ad = none ∧ m = 0 ∧ c = 0 ∧ news = []) ∨ ∃ d, ad = some d ∧ news.length = m * size ∧ ∀ j u, news[j]? = some u → w.cell? (d.add j) = some u) (h1 : ∀ u ∈ news, u.oneCell' = true)
    (h63 : m ≤ maxLen) (hbytes : m * bytes ≤ 140737488355328) (hbase : base ≤ w.heap.size)
    (h : ∀ v' w', w'.ownsRow base e size v' m news → w.grownBy w' none → K (a.put o.dst v') w') :
    if Region.wanted o (yielded ops a.tmps) = true then Oper.wp P o a w K Q else E := by
  rcases hin with ⟨rfl, rfl, rfl, rfl⟩ | ⟨d, rfl, hl, hnews⟩
  · exact step_append_none hgd s x t ho base e i size ht hi (.slice none 0 0) 0 [] hs (World.ownsRow_nil _ _ _ _) hx (h _ _ (World.ownsRow_nil _ _ _ _) (gb_refl w none))
  · refine step_append_own hgd s x t ho base e i z size bytes ht hi hz hsize hby hzs hsz (.slice none 0 0) 0 [] hs (World.ownsRow_nil _ _ _ _) d m c news hx hl hnews h1 (by rw [Nat.zero_add]; exact h63) (by rw [Nat.zero_add]; exact hbytes) hbase ?_
    intro v' w' h2 h3 _
    rw [Nat.zero_add, List.nil_append] at h2
    exact h v' w' h2 h3

theorem keep6 {W w w' : World} {x y z : Nat} {a b c d e f : Value} (h : w.cell? ⟨x, 0, none⟩ = some a ∧ w.cell? ⟨x, 1, none⟩ = some b ∧ w.cell? ⟨y, 0, none⟩ = some c ∧ w.cell? ⟨y, 1, none⟩ = some d ∧ w.cell? ⟨z, 0, none⟩ = some e ∧ w.cell? ⟨z, 1, none⟩ = some f ∧ Below W.heap.size W w) (hb : Below w.heap.size w w') :
    w'.cell? ⟨x, 0, none⟩ = some a ∧ w'.cell? ⟨x, 1, none⟩ = some b ∧ w'.cell? ⟨y, 0, none⟩ = some c ∧ w'.cell? ⟨y, 1, none⟩ = some d ∧ w'.cell? ⟨z, 0, none⟩ = some e ∧ w'.cell? ⟨z, 1, none⟩ = some f ∧ Below W.heap.size W w' := by
  obtain ⟨h1, h2, h3, h4, h5, h6, h7⟩ := h
  have lx := World.block_lt_of_cell? w _ h1
  have ly := World.block_lt_of_cell? w _ h3
  have lz := World.block_lt_of_cell? w _ h5
  exact ⟨by rw [hb.cell (p := ⟨x, 0, none⟩) lx]; exact h1, by rw [hb.cell (p := ⟨x, 1, none⟩) lx]; exact h2, by rw [hb.cell (p := ⟨y, 0, none⟩) ly]; exact h3, by rw [hb.cell (p := ⟨y, 1, none⟩) ly]; exact h4,
    by rw [hb.cell (p := ⟨z, 0, none⟩) lz]; exact h5, by rw [hb.cell (p := ⟨z, 1, none⟩) lz]; exact h6, h7.trans (hb.mono h7.size)⟩
theorem keep6_drew {w : World} {x y z : Nat} {a b c d e f : Value} (h1 : w.cell? ⟨x, 0, none⟩ = some a) (h2 : w.cell? ⟨x, 1, none⟩ = some b) (h3 : w.cell? ⟨y, 0, none⟩ = some c) (h4 : w.cell? ⟨y, 1, none⟩ = some d) (h5 : w.cell? ⟨z, 0, none⟩ = some e) (h6 : w.cell? ⟨z, 1, none⟩ = some f) :
    w.drew.cell? ⟨x, 0, none⟩ = some a ∧ w.drew.cell? ⟨x, 1, none⟩ = some b ∧ w.drew.cell? ⟨y, 0, none⟩ = some c ∧ w.drew.cell? ⟨y, 1, none⟩ = some d ∧ w.drew.cell? ⟨z, 0, none⟩ = some e ∧ w.drew.cell? ⟨z, 1, none⟩ = some f ∧ Below w.heap.size w w.drew :=
  ⟨h1, h2, h3, h4, h5, h6, (Below.refl _ _).drew⟩
theorem keep6_bel {W w : World} {x y z : Nat} {a b c d e f : Value} (h : w.cell? ⟨x, 0, none⟩ = some a ∧ w.cell? ⟨x, 1, none⟩ = some b ∧ w.cell? ⟨y, 0, none⟩ = some c ∧ w.cell? ⟨y, 1, none⟩ = some d ∧ w.cell? ⟨z, 0, none⟩ = some e ∧ w.cell? ⟨z, 1, none⟩ = some f ∧ Below W.heap.size W w) : Below W.heap.size W w := h.2.2.2.2.2.2
set_option maxRecDepth 100000 in
theorem spans_far (a : Option Addr) (len cap : Nat) (ar : Option Addr) (rl rc : Nat) (fa ua fb ub : Int) (w : World) (hl : len ≤ 9223372036854775807) (hr : ¬ (len ≤ 400 ∧ rl ≤ 20)) (h : CTabs w) :
    Calls Tryd.prog 6 #[.slice a len cap, .slice ar rl rc, .agg #[.int .i64 fa, .int .i64 ua], .agg #[.int .i64 fb, .int .i64 ub]] w fun e w' => e = .returned (.bool true) ∧ Below w.heap.size w w' := by
  have B0 := Lib.hid (((Below.refl w.heap.size w).alloc (Nat.le_refl _) (.cells #[.int .i64 fa, .int .i64 ua] 43)).alloc (by simp) (.cells #[.int .i64 fb, .int .i64 ub] 43))
  have H0 := Lib.hid (h.below B0.out)
  clear h
  by_cases h4 : len ≤ 400
  · have h5 : ¬ rl ≤ 20 := fun e => hr ⟨h4, e⟩
    have t1 : decide ((len : Int) ≤ 400) = true := decide_eq_true (by omega)
    have t2 : decide ((20 : Int) < (rl : Int)) = true := decide_eq_true (by omega)
    clear hr
    go_enter Tryd.func6, Tryd.ntmps6
    go_wp2_with fail
    refine (few_any _ _ _ _ hl).mono ?_; rintro e w' ⟨rfl, rfl⟩
    go_wp2_with fail
    refine (awake_any _ H0.out).mono ?_; rintro e w8 ⟨rfl, b8⟩
    go_wp2
    go_ret
    exact ⟨rfl, B0.out.trans (b8.mono B0.out.size)⟩
  · have t1 : decide ((len : Int) ≤ 400) = false := decide_eq_false (by omega)
    clear hr
    go_enter Tryd.func6, Tryd.ntmps6
    go_wp2_with fail
    refine (few_any _ _ _ _ hl).mono ?_; rintro e w' ⟨rfl, rfl⟩
    go_wp2_with fail
    refine (awake_any _ H0.out).mono ?_; rintro e w8 ⟨rfl, b8⟩
    go_wp2
    go_ret
    exact ⟨rfl, B0.out.trans (b8.mono B0.out.size)⟩

set_option maxRecDepth 100000 in
set_option maxHeartbeats 4000000 in
theorem spans_near (a : Option Addr) (len cap : Nat) (zs : List Int) (ar : Option Addr) (rl rc : Nat) (rs : List Sp) (fa ua fb ub : Int) (w : World) (hl : len ≤ 400) (hrl : rl ≤ 20) (hr : IsRow .i64 w a len cap zs) (hn : rs.length = rl) (hs : SpIn w ar rs) (h : CTabs w) :
    Calls Tryd.prog 6 #[.slice a len cap, .slice ar rl rc, .agg #[.int .i64 fa, .int .i64 ua], .agg #[.int .i64 fb, .int .i64 ub]] w fun e w' => e = .returned (.bool true) ∧ Below w.heap.size w w' := by
  obtain ⟨i0, hi, hz0, hz1, hz2⟩ := info_parts infoSp
  have t1 : decide ((len : Int) ≤ 400) = true := decide_eq_true (by omega)
  have t2 : decide ((20 : Int) < (rl : Int)) = false := decide_eq_false (by omega)
  obtain ⟨W2, hW2⟩ : ∃ W2, (w.alloc (.cells #[.int .i64 fa, .int .i64 ua] 43)).alloc (.cells #[.int .i64 fb, .int .i64 ub] 43) = W2 := ⟨_, rfl⟩
  obtain ⟨p1, p2, p3⟩ := twosp_at w W2 fa ua fb ub 43 (by rw [hW2]; exact Below.refl _ _)
  have HSZ : Hid (W2.heap.size = w.heap.size + 2) := by show _ = _; rw [← hW2]; simp
  obtain ⟨g, hg⟩ : ∃ g, W2.heap.size = g := ⟨_, rfl⟩
  have HG := Lib.hid hg
  have HW := Lib.hid hW2
  have PA := Lib.hid p1
  have PB := Lib.hid p2
  have B0 := Lib.hid p3
  have H0 := Lib.hid (h.below p3)
  have HR := Lib.hid (hr.below p3)
  have HS := Lib.hid (hs.below p3)
  have HN := Lib.hid hn
  clear h hr hs p1 p2 p3 hn hW2 hg
  go_enter Tryd.func6, Tryd.ntmps6
  go_wp2_with fail
  refine (few_any _ _ _ _ (by omega)).mono ?_; rintro e w' ⟨rfl, rfl⟩
  go_wp2_with fail
  rw [HW.out]
  refine (newg_any _ _ _ _).mono ?_; rintro e w1 ⟨rfl, g1⟩
  rw [HG.out] at g1 ⊢
  go_wp2_with fail
  have hgl := g1.lt
  refine (g1.next HR.out 9 (by omega)).mono ?_; rintro e wd ⟨r, rfl, r0, r1, g3, gr3⟩
  obtain ⟨K, rfl⟩ : ∃ K : Nat, r = K := ⟨r.toNat, by omega⟩
  have hK : K ≤ 8 := by omega
  have G3 := Lib.hid g3
  have S3 := gr3.size
  clear r0 r1 g1 g3 gr3
  go_wp2_with fail
  go_loopw [10, 11] (fun v i wr => ∃ (k : Nat) (xs : List Sp), k + xs.length = K ∧ i = .int .i64 k ∧ Hid (Game W2 wr g a len cap) ∧ Hid (AggsAt 43 2 encSp wr w1.heap.size v xs) ∧ Hid (Drawn xs) ∧ w1.heap.size ≤ wr.heap.size) (fun _ i _ => (intOf i).toNat)
  case atStart => exact ⟨K, [], by simp, rfl, G3, AggsAt.nil _ _ _ _ _, (fun s hs => by cases hs), S3⟩
  case round =>
    obtain ⟨k, xs, hkx, rfl, hgm2, own, dr, hsz⟩ := hrel
    have hxl : xs.length ≤ 8 := by omega
    by_cases hk0 : 0 < k
    · have HKX := Lib.hid hkx
      clear hkx
      go_wp2_with fail
      refine (span_any g len cap a zs 60 W2 wr hgm2.out HR.out (by omega) (by omega)).mono ?_; rintro e w4 ⟨x1, x2, rfl, x10, x11, x12, x13, g4, gr4⟩
      have own4 := Lib.hid ((own.out.grown gr4 (fun q hq => by cases hq; omega)).alloc (.cells #[.int .i64 x1, .int .i64 x2] 43))
      have s4 : w1.heap.size ≤ w4.heap.size := Nat.le_trans hsz gr4.size
      have G4 := Lib.hid (g4.alloc (.cells #[.int .i64 x1, .int .i64 x2] 43))
      have DR := Lib.hid (dr.out.snoc (a := x1) (b := x2) x10 x12 (by omega))
      clear hgm2 own g4 gr4 dr hsz x10 x11 x12 x13
      go_wp2_with (at_builtin; refine wpList_append_own _ rfl (.tmp 43) (.tmp 46) 41 rfl w1.heap.size 43 i0 _ 2 16 Tryd.underlying41 hi hz0 hz1 hz2 rfl (by decide) u10 xs.length (flat encSp xs) rfl own4.out ⟨w4.heap.size, 0, none⟩ 1 1 (encSp (x1, x2)) rfl rfl ?qc1 ?qc2 ?qc3 ?qc4 ?qc5 ?_)
      case qc1 => exact cell_new2 _ _ rfl _ x1 x2
      case qc2 => exact encSp_one (x1, x2)
      case qc3 => unfold maxLen; omega
      case qc4 => omega
      case qc5 => simp; omega
      intro v' w5 hown' hgrow hnil'
      have OWN := Lib.hid (AggsAt.push hown')
      have G5 := Lib.hid (G4.out.own own4.out hgl hgrow)
      have s5 : w1.heap.size ≤ w5.heap.size := by have := hgrow.size; simp at this; omega
      have HK := HKX.out
      clear hown' hgrow hnil' own4 G4
      go_wp2
      go_roundw
      case rel => exact ⟨k - 1, xs ++ [(x1, x2)], by simp; omega, by go_num, G5, OWN, DR, s5⟩
      case measure => simp [intOf]; omega
    · obtain rfl : k = 0 := by omega
      clear hkx hk0
      obtain ⟨W5, rfl⟩ : ∃ W5, W5 = wr := ⟨_, rfl⟩
      obtain ⟨n, hn⟩ : ∃ n, xs.length = n := ⟨_, rfl⟩
      obtain ⟨a4, cap4, rfl, hin, hshape⟩ : ∃ a4 cap4, u10 = .slice a4 n cap4 ∧ SpIn W5 a4 xs ∧ ((a4 = none ∧ n = 0 ∧ cap4 = 0 ∧ xs = []) ∨ ∃ d : Nat, a4 = some ⟨d, 0, none⟩ ∧ d < W5.heap.size) := by
        rw [← hn]
        rcases own.out.shape encSp_len with ⟨rfl, rfl⟩ | ⟨gr, cr, rfl, hgr, hgr1, hcr, hcm, hcell, hfree⟩
        · exact ⟨none, 0, rfl, .inl ⟨rfl, rfl⟩, .inl ⟨rfl, rfl, rfl, rfl⟩⟩
        · exact ⟨_, _, rfl, .inr ⟨gr, 0, rfl, hgr1, hcell⟩, .inr ⟨gr, rfl, hgr1⟩⟩
      have BG := Lib.hid hgm2.out.below
      have PA5 := Lib.hid (PA.out.below BG.out PA.out.2.2)
      have PB5 := Lib.hid (PB.out.below BG.out PB.out.2.2)
      have HS5 := Lib.hid (HS.out.below BG.out)
      have H5 := Lib.hid (H0.out.below BG.out)
      have B5 := Lib.hid (B0.out.trans (BG.out.mono B0.out.size))
      have IN5 := Lib.hid hin
      have HNX := Lib.hid hn
      have hn8 : n ≤ 8 := by omega
      have NW : Hid (∀ wx, Below W5.heap.size W5 wx → (a4 = none ∧ n = 0 ∧ cap4 = 0 ∧ flat encSp xs = []) ∨ ∃ d, a4 = some d ∧ (flat encSp xs).length = n * 2 ∧ ∀ j u, (flat encSp xs)[j]? = some u → wx.cell? (d.add j) = some u) := fun wx hb => by
        rcases hshape with ⟨h1, h2, h3, rfl⟩ | ⟨d, h1, h2⟩
        · exact .inl ⟨h1, h2, h3, rfl⟩
        · refine .inr ⟨⟨d, 0, none⟩, h1, by rw [flat_length encSp_len, hn], fun j u hu => ?_⟩
          rcases hin with ⟨h3, _⟩ | ⟨b, off, h3, h4, h5⟩
          · rw [h1] at h3; cases h3
          · rw [h1] at h3
            injection h3 with h3
            injection h3 with e1 e2
            subst e1 e2
            have e : ((⟨d, 0, none⟩ : Addr).add j) = ⟨d, 0 + j, none⟩ := by unfold Addr.add; split <;> simp_all
            rw [e]
            exact (h5.below hb) j u hu
      obtain ⟨q0, q1, q2⟩ := PA5.out
      clear hin hshape hn own hgm2 hxl dr
      go_wp2
      go_region_held3 (fun w' => w'.cell? ⟨w.heap.size, 0, none⟩ = some (.int .i64 fa) ∧ w'.cell? ⟨w.heap.size, 1, none⟩ = some (.int .i64 ua))
        (first | go_keep | exact keep_alloc (by assumption) _ | exact keep_grown (by assumption) hgrow1 (by simp) | exact keep_grown (by assumption) hgrow2 (fun e => by have := (World.ownsRow.lt hown1 _ e.symm).1; omega))
        (first
          | (refine step_append_in (by rfl) (.const (.slice none 0 0)) (.tmp 50) 41 (by rfl) W5.heap.size 43 i0 _ 2 16 Tryd.underlying41 hi hz0 hz1 hz2 rfl (by decide) (by rfl) a4 n cap4 (flat encSp xs) (by rfl) (NW.out _ (by repeat (first | exact Below.refl _ _ | apply Below.drew | apply below_drewN | refine Below.alloc ?_ (by simp) _))) (flat_oneCell encSp_one _) (by unfold maxLen; omega) (by omega) (by simp) ?_; intro v1 w1' hown1 hgrow1)
          | (refine step_append_own (by rfl) (.tmp 51) (.tmp 53) 41 (by rfl) W5.heap.size 43 i0 _ 2 16 Tryd.underlying41 hi hz0 hz1 hz2 rfl (by decide) v1 n (flat encSp xs) (by rfl) (hown1.alloc _) ⟨w1'.heap.size, 0, none⟩ 1 1 (encSp (fa, ua)) (by rfl) rfl (cell_new2 _ _ rfl _ fa ua) (encSp_one (fa, ua)) (by unfold maxLen; omega) (by omega) (by have := hgrow1.size; simp at this ⊢; omega) ?_; intro v2 w2' hown2 hgrow2 hn2; obtain ⟨g6, c6, rfl, hg6, hg7⟩ := hown2.form (by omega))
          | (refine step_append_own (by rfl) (.tmp 51) (.tmp 53) 41 (by rfl) W5.heap.size 43 i0 _ 2 16 Tryd.underlying41 hi hz0 hz1 hz2 rfl (by decide) v1 n (flat encSp xs) (by rfl) hown1 ⟨W5.heap.size, 0, none⟩ 1 1 (encSp (fa, ua)) (by rfl) rfl (by refine news_far (w := (W5.alloc (.cells #[.int .i64 fa, .int .i64 ua] 43)).drew) ?_ (show W5.heap.size < (W5.alloc (.cells #[.int .i64 fa, .int .i64 ua] 43)).heap.size from by simp) hgrow1 (by simp); exact cell_new2 W5 W5.heap.size rfl 43 fa ua) (encSp_one (fa, ua)) (by unfold maxLen; omega) (by omega) (by have := hgrow1.size; simp at this ⊢; omega) ?_; intro v2 w2' hown2 hgrow2 hn2; obtain ⟨g6, c6, rfl, hg6, hg7⟩ := hown2.form (by omega)))
      all_goals (
        have OL1 := Lib.hid (World.ownsRow.lt hown1)
        have B2 : Below W5.heap.size W5 w2' := by
          first
            | exact (((Below.refl W5.heap.size W5).drew.grown hgrow1 (Nat.le_refl _) (fun k hk => by cases hk)).alloc (by have h1 := hgrow1.size; simp at h1; exact h1) _).grown hgrow2 (by have h1 := hgrow1.size; simp at h1 ⊢; omega) (fun k hk => (OL1.out k hk).1)
            | exact (((Below.refl W5.heap.size W5).alloc (Nat.le_refl _) _).drew.grown hgrow1 (by simp) (fun k hk => by cases hk)).grown hgrow2 (by have h1 := hgrow1.size; simp at h1; omega) (fun k hk => (OL1.out k hk).1)
        have I6 : SpIn w2' (some ⟨g6, 0, none⟩) (xs ++ [(fa, ua)]) := by
          have o6 : AggsAt 43 2 encSp w2' W5.heap.size (.slice (some ⟨g6, 0, none⟩) (n + 1) c6) (xs ++ [(fa, ua)]) := AggsAt.push (by rw [HNX.out]; exact hown2)
          obtain ⟨a7, c7, e7, i7⟩ := AggsAt.spIn o6
          injection e7 with e8
          rw [e8]; exact i7
        obtain ⟨WL, hWL⟩ : ∃ WL, w2'.alloc (.cells #[.slice ar rl rc, .slice a4 n cap4, .slice (some ⟨g6, 0, none⟩) (n + 1) c6] 41) = WL := ⟨_, rfl⟩
        rw [hWL]
        have b2 : Below w2'.heap.size w2' WL := by rw [← hWL]; exact (Below.refl _ _).alloc (Nat.le_refl _) _
        have BL := Lib.hid (B2.trans (b2.mono B2.size))
        have HLS : Hid (∀ j : Nat, j < 3 → ∃ aj nj cj ys, ys.length = nj ∧ nj ≤ 65536 ∧ ∀ wr, Below WL.heap.size WL wr → wr.cell? ⟨w2'.heap.size, j, none⟩ = some (.slice aj nj cj) ∧ SpIn wr aj ys) := fun j hj => by
          have hlt : w2'.heap.size < WL.heap.size := by rw [← hWL]; simp
          rcases (show j = 0 ∨ j = 1 ∨ j = 2 by omega) with rfl | rfl | rfl
          · refine ⟨ar, rl, rc, rs, HN.out, by omega, fun wr hb => ⟨?_, ((HS5.out.below BL.out).below hb)⟩⟩
            rw [hb.cell (p := ⟨w2'.heap.size, 0, none⟩) hlt, ← hWL, World.cell?_alloc_new]; rfl
          · refine ⟨a4, n, cap4, xs, HNX.out, by omega, fun wr hb => ⟨?_, ((IN5.out.below BL.out).below hb)⟩⟩
            rw [hb.cell (p := ⟨w2'.heap.size, 1, none⟩) hlt, ← hWL, World.cell?_alloc_new]; rfl
          · refine ⟨some ⟨g6, 0, none⟩, n + 1, c6, xs ++ [(fa, ua)], by simp [HNX.out], by omega, fun wr hb => ⟨?_, ((I6.below b2).below hb)⟩⟩
            rw [hb.cell (p := ⟨w2'.heap.size, 2, none⟩) hlt, ← hWL, World.cell?_alloc_new]; rfl
        have PAL := Lib.hid (PA5.out.below BL.out PA5.out.2.2)
        have PBL := Lib.hid (PB5.out.below BL.out PB5.out.2.2)
        have HLW := Lib.hid (H5.out.below BL.out)
        have BWL := Lib.hid (B5.out.trans (BL.out.mono B5.out.size))
        clear hown1 hgrow1 hown2 hgrow2 hn2 OL1 B2 I6 hWL b2 hg6 hg7
        go_wp2
        go_loopw [57] (fun i wr => ∃ j : Nat, j ≤ 3 ∧ i = .int .i64 j ∧ Below WL.heap.size WL wr) (fun i _ => 3 - (intOf i).toNat)
        case atStart => exact ⟨0, by omega, rfl, Below.refl _ _⟩
        case round =>
          obtain ⟨j, hj, rfl, bel⟩ := hrel
          by_cases hj3 : j < 3
          · obtain ⟨aj, nj, cj, ys, hny, hnj, hf⟩ := HLS.out j hj3
            obtain ⟨c0, hys⟩ := hf wr bel
            have HNY := Lib.hid hny
            have HYS := Lib.hid hys
            have BE := Lib.hid bel
            clear hf hny hys bel
            rcases first_bad ys with hv | ⟨j0, hj0, h1, h2⟩
            · have HV := Lib.hid hv
              clear hv
              go_wp2_with fail
              refine (union_any aj nj cj ys wr HNY.out HYS.out (by omega) HV.out).mono ?_; rintro e w3 ⟨v, u, rfl, hu, own, b3⟩
              have HU := Lib.hid hu
              obtain ⟨a9, c9, rfl, hin9⟩ := AggsAt.spIn own
              have I9 := Lib.hid hin9
              have Y3 := Lib.hid (HYS.out.below b3)
              have B3 := Lib.hid (BE.out.trans (b3.mono BE.out.size))
              clear hu own hin9 b3
              go_wp2_with fail
              refine (runion_any aj nj cj ys w3 HNY.out Y3.out (by omega) HV.out).mono ?_; rintro e w4 ⟨v', u', rfl, hu', own', b4⟩
              have eu : u = u' := HU.out.unique hu'
              subst eu
              obtain ⟨a10, c10, rfl, hin10⟩ := AggsAt.spIn own'
              have I10 := Lib.hid hin10
              have I9b := Lib.hid (I9.out.below b4)
              have Y4 := Lib.hid (Y3.out.below b4)
              have B4 := Lib.hid (B3.out.trans (b4.mono B3.out.size))
              clear hu' own' hin10 b4
              go_wp2_with fail
              refine (minutes_any aj nj cj ys w4 HNY.out Y4.out (by omega) HV.out).mono ?_; rintro e w6 ⟨u', hu', rfl, b6⟩
              have eu : u = u' := HU.out.unique hu'
              subst eu
              have I9c := Lib.hid (I9b.out.below b6)
              have I10b := Lib.hid (I10.out.below b6)
              have Y6 := Lib.hid (Y4.out.below b6)
              have B6 := Lib.hid (B4.out.trans (b6.mono B4.out.size))
              clear hu' b6
              go_wp2_with fail
              refine (rminutes_any aj nj cj ys w6 HNY.out Y6.out (by omega) HV.out).mono ?_; rintro e w7 ⟨u', hu', rfl, b7⟩
              have eu : u = u' := HU.out.unique hu'
              subst eu
              have I9d := Lib.hid (I9c.out.below b7)
              have I10c := Lib.hid (I10b.out.below b7)
              have B7 := Lib.hid (B6.out.trans (b7.mono B6.out.size))
              obtain ⟨M, hM⟩ : ∃ M, total u = M := ⟨_, rfl⟩
              rw [hM]
              have hul : u.length ≤ 4294967296 := by
                have h1 := total_le HU.out.1 (lo := 0) (hi := 16777216) (fun s hs => by have := of_decide_eq_true (HU.out.valid HV.out s hs); omega) (by decide)
                have h2 := len_total (l := u) (fun s hs => HU.out.1.2 s hs)
                omega
              obtain ⟨m, hm⟩ : ∃ m, u.length = m := ⟨_, rfl⟩
              rw [hm] at hul ⊢
              have HM := Lib.hid hm
              clear hu' b7 hM hm
              go_wp2_with fail
              refine (same_any a9 a10 m c9 c10 u w7 HM.out I9d.out I10c.out hul).mono ?_; rintro e w8 ⟨rfl, b8⟩
              have B8 := Lib.hid (B7.out.trans (b8.mono B7.out.size))
              clear b8
              go_wp2
              go_roundw
              case rel => exact ⟨j + 1, by omega, by go_num, B8.out⟩
              case measure => simp [intOf]; omega
            · have H1 := Lib.hid h1
              have H2 := Lib.hid h2
              clear h1 h2
              go_wp2_with fail
              refine (union_bad aj nj cj ys wr HNY.out HYS.out hnj j0 hj0 H1.out H2.out).mono ?_; rintro e w3 ⟨rfl, b3⟩
              have Y3 := Lib.hid (HYS.out.below b3)
              have B3 := Lib.hid (BE.out.trans (b3.mono BE.out.size))
              clear b3
              go_wp2_with fail
              refine (runion_bad aj nj cj ys w3 HNY.out Y3.out hnj j0 hj0 H1.out H2.out).mono ?_; rintro e w4 ⟨rfl, b4⟩
              have Y4 := Lib.hid (Y3.out.below b4)
              have B4 := Lib.hid (B3.out.trans (b4.mono B3.out.size))
              clear b4
              go_wp2_with fail
              refine (minutes_bad aj nj cj ys w4 HNY.out Y4.out hnj j0 hj0 H1.out H2.out).mono ?_; rintro e w6 ⟨rfl, b6⟩
              have Y6 := Lib.hid (Y4.out.below b6)
              have B6 := Lib.hid (B4.out.trans (b6.mono B4.out.size))
              clear b6
              go_wp2_with fail
              refine (rminutes_bad aj nj cj ys w6 HNY.out Y6.out hnj j0 hj0 H1.out H2.out).mono ?_; rintro e w7 ⟨rfl, b7⟩
              have B7 := Lib.hid (B6.out.trans (b7.mono B6.out.size))
              clear b7
              go_wp2_with fail
              refine (same_any none none 0 0 0 [] w7 rfl (.inl ⟨rfl, rfl⟩) (.inl ⟨rfl, rfl⟩) (by decide)).mono ?_; rintro e w8 ⟨rfl, b8⟩
              have B8 := Lib.hid (B7.out.trans (b8.mono B7.out.size))
              clear b8
              go_wp2
              go_roundw
              case rel => exact ⟨j + 1, by omega, by go_num, B8.out⟩
              case measure => simp [intOf]; omega
          · obtain rfl : j = 3 := by omega
            have PA6 := Lib.hid (PAL.out.below bel PAL.out.2.2)
            have PB6 := Lib.hid (PBL.out.below bel PBL.out.2.2)
            have H6 := Lib.hid (HLW.out.below bel)
            have B6 := Lib.hid (BWL.out.trans (bel.mono BWL.out.size))
            clear bel
            obtain ⟨q0, q1, q2⟩ := PA6.out
            obtain ⟨q3, q4, q5⟩ := PB6.out
            obtain ⟨t, ht⟩ : ∃ t, ovB (fa, ua) (fb, ub) = t := ⟨_, rfl⟩
            obtain ⟨v1, v2, hv⟩ : ∃ v1 v2, ovV (fa, ua) (fb, ub) = (v1, v2) := ⟨_, _, rfl⟩
            have O1 := Lib.hid (fun w => overlap_is (fa, ua) (fb, ub) v1 v2 t hv ht w)
            have O2 := Lib.hid (fun w => roverlap_is (fa, ua) (fb, ub) v1 v2 t hv ht w)
            obtain ⟨va, hva⟩ : ∃ b, spOk (fa, ua) = b := ⟨_, rfl⟩
            have V1 := Lib.hid (fun w => valid_is fa ua va hva w)
            have V2 := Lib.hid (fun w => rvalid_is fa ua va hva w)
            clear ht hv hva
            go_wp2_with fail
            refine (O1.out _).mono ?_; rintro e w4 ⟨rfl, b4⟩
            have PA7 := Lib.hid (PA6.out.below b4 PA6.out.2.2)
            have PB7 := Lib.hid (PB6.out.below b4 PB6.out.2.2)
            have H7 := Lib.hid (H6.out.below b4)
            have B7 := Lib.hid (B6.out.trans (b4.mono B6.out.size))
            clear q0 q1 q2 q3 q4 q5 b4
            obtain ⟨q0, q1, -⟩ := PA7.out.alloc (.cells #[.int .i64 v1, .int .i64 v2] 43)
            obtain ⟨q3, q4, -⟩ := PB7.out.alloc (.cells #[.int .i64 v1, .int .i64 v2] 43)
            go_wp2_with fail
            refine (O2.out _).mono ?_; rintro e w5 ⟨rfl, b5⟩
            obtain ⟨p3, p4⟩ := onesp_at _ _ _ _ _ b5
            have PA8 := Lib.hid ((PA7.out.below p4 PA7.out.2.2).alloc (.cells #[.int .i64 v1, .int .i64 v2] 43))
            have PX8 := Lib.hid (p3.alloc (.cells #[.int .i64 v1, .int .i64 v2] 43))
            have PY8 := Lib.hid (SpAt.new w5 v1 v2 43)
            have H8 := Lib.hid ((H7.out.below p4).below ((Below.refl w5.heap.size w5).alloc (Nat.le_refl _) (.cells #[.int .i64 v1, .int .i64 v2] 43)))
            have B8 := Lib.hid ((B7.out.trans (p4.mono B7.out.size)).alloc (Nat.le_trans B7.out.size p4.size) (.cells #[.int .i64 v1, .int .i64 v2] 43))
            clear q0 q1 q3 q4 p3 p4 b5
            obtain ⟨xb, hxb⟩ : ∃ x, w4.heap.size = x := ⟨_, rfl⟩
            rw [hxb] at PX8 ⊢
            clear hxb
            have E : ∀ w, (binOp .eql 43 (.agg #[.int .i64 v1, .int .i64 v2]) (.agg #[.int .i64 v1, .int .i64 v2])).run Tryd.prog w = .ok (.bool true) w := fun w => by rw [eq_sp]; simp
            go_wp2
            obtain ⟨WY, hWY⟩ : ∃ WY, w5.alloc (.cells #[.int .i64 v1, .int .i64 v2] 43) = WY := ⟨_, rfl⟩
            obtain ⟨yb, hyb⟩ : ∃ y, w5.heap.size = y := ⟨_, rfl⟩
            rw [hWY] at PA8 PX8 PY8 H8 B8 ⊢
            rw [hyb] at PY8 ⊢
            clear hWY hyb
            obtain ⟨q0, q1, -⟩ := PA8.out
            obtain ⟨q3, q4, -⟩ := PX8.out
            obtain ⟨q5, q6, -⟩ := PY8.out
            have BY := Below.refl WY.heap.size WY
            go_region_held3 (fun w' => w'.cell? ⟨w.heap.size, 0, none⟩ = some (.int .i64 fa) ∧ w'.cell? ⟨w.heap.size, 1, none⟩ = some (.int .i64 ua) ∧ w'.cell? ⟨xb, 0, none⟩ = some (.int .i64 v1) ∧ w'.cell? ⟨xb, 1, none⟩ = some (.int .i64 v2) ∧ w'.cell? ⟨yb, 0, none⟩ = some (.int .i64 v1) ∧ w'.cell? ⟨yb, 1, none⟩ = some (.int .i64 v2) ∧ Below WY.heap.size WY w')
              (first | exact keep6_drew q0 q1 q3 q4 q5 q6 | exact keep6 (by assumption) b7 | exact keep6 (by assumption) b8 | exact keep6 (by assumption) b9 | go_keep)
              (first
                | (go_at_call 32; refine (V1.out _).mono ?_; rintro e w7 ⟨rfl, b7⟩)
                | (go_at_call 33; refine (V2.out _).mono ?_; rintro e w8 ⟨rfl, b8⟩)
                | (go_at_call 9; refine (awake_any _ (H8.out.below (keep6_bel (by assumption)))).mono ?_; rintro e w9 ⟨rfl, b9⟩))
            all_goals (
              have bF : Below WY.heap.size WY w9 := by
                first
                  | exact keep6_bel (by assumption)
                  | exact (((Below.refl WY.heap.size WY).drew.trans b7).trans (b8.mono b7.size)).trans (b9.mono (Nat.le_trans b7.size b8.size))
                  | exact (((Below.refl WY.heap.size WY).drew.trans b8).trans (b7.mono b8.size)).trans (b9.mono (Nat.le_trans b8.size b7.size))
              go_wp2
              go_ret
              exact ⟨rfl, B8.out.trans (bF.mono B8.out.size)⟩))
theorem spans_walk (a : Option Addr) (len cap : Nat) (zs : List Int) (ar : Option Addr) (rl rc : Nat) (rs : List Sp) (fa ua fb ub : Int) (w : World) (hr : IsRow .i64 w a len cap zs) (hn : rs.length = rl) (hs : SpIn w ar rs) (h : CTabs w) :
    Calls Tryd.prog 6 #[.slice a len cap, .slice ar rl rc, .agg #[.int .i64 fa, .int .i64 ua], .agg #[.int .i64 fb, .int .i64 ub]] w fun e w' => e = .returned (.bool true) ∧ Below w.heap.size w w' := by
  by_cases hc : len ≤ 400 ∧ rl ≤ 20
  · exact spans_near a len cap zs ar rl rc rs fa ua fb ub w hc.1 hc.2 hr hn hs h
  · refine spans_far a len cap ar rl rc fa ua fb ub w ?_ hc h
    rcases hr with ⟨_, h, _⟩ | ⟨_, _, h1, h2, _⟩
    · omega
    · unfold maxLen at h2; omega
end Go.Proofs.YticehhmfbpjamaaDoor.cal
