/- For every list of numbers CalendarUnion returns true: a union has exactly the minutes of its spans, none of its spans touch, and the union of a union is itself. Condition: the listed tables hold what the program's text lays (the card ties that). -/
import Derived.Test.YticehhmfbpjamaaDoorCalO
import Derived.Test.YticehhmfbpjamaaDoorCalV
import Derived.Test.YticehhmfbpjamaaDoorCalW
namespace Go.Proofs.YticehhmfbpjamaaDoor.cal
open Go.RowKit lex uni aggs deck kit

set_option maxRecDepth 100000 in
set_option maxHeartbeats 1000000 in
theorem same_any (a b : Option Addr) (n ca cb : Nat) (xs : List Sp) (w : World) (hn : xs.length = n) (ha : SpIn w a xs) (hb : SpIn w b xs) (hl : n ≤ 4294967296) :
    Calls Tryd.prog 29 #[.slice a n ca, .slice b n cb] w fun e w' => e = .returned (.bool true) ∧ Below w.heap.size w w' := by
  have HN := Lib.hid hn
  have HA := Lib.hid ha
  have HB := Lib.hid hb
  clear hn ha hb
  by_cases hp : 0 < n
  · have hne : xs ≠ [] := fun e => by have := HN.out; rw [e] at this; simp at this; omega
    obtain ⟨g, o, rfl, hg, hc⟩ := HA.out.cells hne
    obtain ⟨g2, o2, rfl, hg2, hc2⟩ := HB.out.cells hne
    have HC := Lib.hid hc
    have HC2 := Lib.hid hc2
    have HG := Lib.hid hg
    have HG2 := Lib.hid hg2
    clear hc hc2 hne hg hg2
    go_enter Tryd.func29, Tryd.ntmps29
    go_wp2
    go_loopw [13] (fun i wr => ∃ j : Nat, j ≤ n ∧ i = .int .i64 j ∧ Below w.heap.size w wr) (fun i _ => n - (intOf i).toNat)
    case atStart => exact ⟨0, Nat.zero_le _, rfl, Below.refl _ _⟩
    case round =>
      obtain ⟨j, hj, rfl, bel⟩ := hrel
      by_cases hjn : j < n
      · have hjx : j < xs.length := by rw [HN.out]; exact hjn
        obtain ⟨c0, c1⟩ := HC.out j hjx
        obtain ⟨d0, d1⟩ := HC2.out j hjx
        rw [← bel.cell (p := ⟨g, o + j * 2, none⟩) HG.out] at c0
        rw [← bel.cell (p := ⟨g, o + j * 2 + 1, none⟩) HG.out] at c1
        rw [← bel.cell (p := ⟨g2, o2 + j * 2, none⟩) HG2.out] at d0
        rw [← bel.cell (p := ⟨g2, o2 + j * 2 + 1, none⟩) HG2.out] at d1
        obtain ⟨x1, hx1⟩ : ∃ x, xs[j].1 = x := ⟨_, rfl⟩
        obtain ⟨x2, hx2⟩ : ∃ x, xs[j].2 = x := ⟨_, rfl⟩
        rw [hx1] at c0 d0
        rw [hx2] at c1 d1
        clear hx1 hx2
        have E : ∀ w, (binOp .neq 43 (.agg #[.int .i64 x1, .int .i64 x2]) (.agg #[.int .i64 x1, .int .i64 x2])).run Tryd.prog w = .ok (.bool false) w := fun w => by rw [neq_sp]; simp
        go_wp2
        go_quiet (fail)
        go_wp2
        go_roundw
        case rel => exact ⟨j + 1, by omega, by go_num, below_drewN bel _⟩
        case measure => simp [intOf]; omega
      · obtain rfl : j = n := by omega
        go_wp2
        go_ret
        exact ⟨rfl, bel⟩
  · obtain rfl : n = 0 := by omega
    go_enter Tryd.func29, Tryd.ntmps29
    go_wp2
    refine wp_loop_rounds 1 ?_; rw [rounds_succ]
    go_wp2
    go_ret
    exact ⟨rfl, Below.refl _ _⟩

/-- a row of 120 marks -/
def Marks (w : World) (b : Nat) (p : Nat → Bool) : Prop := ∃ A T, w.heap[b]? = some (.cells A T (0, 0)) ∧ A.size = 120 ∧ ∀ t, t < 120 → A[t]? = some (.bool (p t))
theorem Marks.get {w : World} {b : Nat} {p : Nat → Bool} (h : Marks w b p) {t : Nat} (ht : t < 120) : w.cell? ⟨b, t, none⟩ = some (.bool (p t)) ∧ w.frozen? ⟨b, t, none⟩ = false := by
  obtain ⟨A, T, h1, h2, h3⟩ := h
  have := h3 t ht
  refine ⟨?_, ?_⟩
  · simp [World.cell?, h1, this]
  · simp [World.frozen?, h1]
theorem Marks.lt {w : World} {b : Nat} {p : Nat → Bool} (h : Marks w b p) : b < w.heap.size := by obtain ⟨A, T, h1, _⟩ := h; exact lt_of_block h1
theorem Marks.other {w w' : World} {b : Nat} {p : Nat → Bool} {row : Option Nat} (h : Marks w b p) (hg : w.grownBy w' row) (hne : some b ≠ row) : Marks w' b p := by
  have hl := h.lt
  obtain ⟨A, T, h1, h2, h3⟩ := h
  exact ⟨A, T, by rw [hg.block b hl hne]; exact h1, h2, h3⟩
theorem Marks.below {w w' : World} {b B : Nat} {p : Nat → Bool} (h : Marks w b p) (hb : Below B w w') (hB : b < B) : Marks w' b p := by
  obtain ⟨A, T, h1, h2, h3⟩ := h
  exact ⟨A, T, by rw [hb.block b hB]; exact h1, h2, h3⟩
theorem Marks.congr {w : World} {b : Nat} {p q : Nat → Bool} (h : Marks w b p) (e : ∀ t, t < 120 → p t = q t) : Marks w b q := by
  obtain ⟨A, T, h1, h2, h3⟩ := h
  exact ⟨A, T, h1, h2, fun t ht => by rw [h3 t ht, e t ht]⟩
theorem Marks.set {w : World} {b : Nat} {p : Nat → Bool} (h : Marks w b p) (t : Nat) (ht : t < 120) : Marks (w.setCell ⟨b, t, none⟩ (.bool true)) b (fun i => p i || decide (i = t)) := by
  obtain ⟨A, T, h1, h2, h3⟩ := h
  have hlt := lt_of_block h1
  have h' : w.heap[b] = .cells A T (0, 0) := by simpa [Array.getElem?_eq_getElem hlt] using h1
  refine ⟨A.setIfInBounds t (.bool true), T, ?_, by simpa using h2, fun i hi => ?_⟩
  · show (w.heap.modify b _)[b]? = _
    rw [Array.getElem?_eq_getElem (by simpa using hlt), Array.getElem_modify_self, h']
    first | rfl | simp [Array.set!_eq_setIfInBounds]
  · rw [Array.getElem?_setIfInBounds]
    by_cases e : t = i
    · subst e; simp [h2, ht]
    · rw [if_neg e, h3 i hi]
      show _ = some (Value.bool (p i || decide (i = t)))
      rw [decide_eq_false (p := i = t) (fun e' => e e'.symm), Bool.or_false]
theorem memB_snoc (l : List Sp) (x : Sp) (t : Int) : memB (l ++ [x]) t = (memB l t || decide (x.1 ≤ t ∧ t < x.2)) := by unfold memB; simp

/-- the spans that were drawn lie in 0 .. 91 -/
def Drawn (xs : List Sp) : Prop := ∀ s ∈ xs, 0 ≤ s.1 ∧ s.1 < s.2 ∧ s.2 ≤ 91
theorem Drawn.ok {xs : List Sp} (h : Drawn xs) : ∀ s ∈ xs, spOk s = true := fun s hs => by
  have := h s hs
  exact decide_eq_true ⟨this.1, this.2.1, by omega⟩
theorem Drawn.snoc {xs : List Sp} (h : Drawn xs) {a b : Int} (h0 : 0 ≤ a) (h1 : a < b) (h2 : b ≤ 91) : Drawn (xs ++ [(a, b)]) := fun s hs => by
  rcases List.mem_append.1 hs with hs | hs
  · exact h s hs
  · obtain rfl : s = (a, b) := by simpa using hs
    exact ⟨h0, h1, h2⟩

theorem SpAt.other {w w' : World} {g : Nat} {a b : Int} {row : Option Nat} (h : SpAt w g a b) (hg : w.grownBy w' row) (hne : some g ≠ row) : SpAt w' g a b := by
  have e := hg.block g h.2.2 hne
  exact ⟨by rw [World.cell?_of_block (a := ⟨g, 0, none⟩) e]; exact h.1, by rw [World.cell?_of_block (a := ⟨g, 1, none⟩) e]; exact h.2.1, Nat.lt_of_lt_of_le h.2.2 hg.size⟩
theorem len_total : ∀ {l : List Sp}, (∀ s ∈ l, s.1 < s.2) → (l.length : Int) ≤ total l
  | [], _ => by simp [total]
  | a :: l, h => by
    have h1 := len_total (l := l) (fun s hs => h s (List.mem_cons_of_mem _ hs))
    have h2 := h a List.mem_cons_self
    rw [total_cons]; simp; omega
theorem zero120 : Tryd.zeroCells58 = Array.replicate 120 (.bool false) := by kernel_rfl
theorem marks_new (w : World) : Marks (w.alloc (.cells Tryd.zeroCells58 58)) w.heap.size (fun t => memB [] t) := by
  refine ⟨_, _, heap_alloc_new w _, by rw [zero120]; simp, fun t ht => ?_⟩
  rw [zero120]
  simp [memB, ht]
set_option maxRecDepth 100000 in
set_option maxHeartbeats 4000000 in
theorem union_walk (a : Option Addr) (len cap : Nat) (zs : List Int) (w : World) (hr : IsRow .i64 w a len cap zs) (h : CTabs w) :
    Calls Tryd.prog 7 #[.slice a len cap] w fun e w' => e = .returned (.bool true) ∧ Below w.heap.size w w' := by
  have hl : len ≤ 9223372036854775807 := by
    rcases hr with ⟨_, h, _⟩ | ⟨_, _, h1, h2, _⟩
    · omega
    · unfold maxLen at h2; omega
  have H := Lib.hid h
  have HR := Lib.hid hr
  clear h hr
  by_cases h4 : len ≤ 400
  · have t1 : decide ((len : Int) ≤ 400) = true := decide_eq_true (by omega)
    obtain ⟨i0, hi, hz0, hz1, hz2⟩ := info_parts infoSp
    go_enter Tryd.func7, Tryd.ntmps7
    go_wp2_with fail
    refine (few_any _ _ _ _ hl).mono ?_; rintro e w' ⟨rfl, rfl⟩
    go_wp2_with fail
    refine (newg_any _ _ _ _).mono ?_; rintro e w1 ⟨rfl, g1⟩
    go_wp2_with fail
    have M0 := Lib.hid (marks_new w1)
    have G2 := Lib.hid (g1.alloc (.cells Tryd.zeroCells58 58))
    have hs2 : (w1.alloc (.cells Tryd.zeroCells58 58)).heap.size = w1.heap.size + 1 := by simp
    have hgl := g1.lt
    have hgm := g1.mine
    refine (G2.out.next HR.out 9 (by omega)).mono ?_; rintro e wd ⟨r, rfl, r0, r1, g3, gr3⟩
    obtain ⟨g, hg⟩ : ∃ g, w.heap.size = g := ⟨_, rfl⟩
    obtain ⟨bi, hbi⟩ : ∃ b, w1.heap.size = b := ⟨_, rfl⟩
    have hgb : g < bi := by omega
    have M3 := Lib.hid (M0.out.other gr3 (by simp; omega))
    have S3 : bi + 1 ≤ wd.heap.size := by have := gr3.size; omega
    have G3 := Lib.hid g3
    have hwb : w.heap.size ≤ bi := by omega
    rw [hg] at G3 ⊢
    rw [hbi] at M3 ⊢
    clear M0 G2 g1 gr3 g3 hs2
    obtain ⟨K, rfl⟩ : ∃ K : Nat, r = K := ⟨r.toNat, by omega⟩
    have hK : K ≤ 8 := by omega
    clear r0 r1
    clear hg hbi hgl hgm
    go_wp2_with fail
    go_loopw [4, 6] (fun v i wr => ∃ (k : Nat) (xs : List Sp), k + xs.length = K ∧ i = .int .i64 k ∧ Hid (Game w wr g a len cap) ∧ Hid (AggsAt 43 2 encSp wr (bi + 1) v xs) ∧ Hid (Marks wr bi (fun t => memB xs t)) ∧ Hid (Drawn xs) ∧ bi + 1 ≤ wr.heap.size) (fun _ i _ => (intOf i).toNat)
    case atStart => exact ⟨K, [], by simp, rfl, G3, AggsAt.nil _ _ _ _ _, M3, (fun s hs => by cases hs), S3⟩
    case round =>
      obtain ⟨k, xs, hkx, rfl, hgm2, own, mk, dr, hsz⟩ := hrel
      have hxl : xs.length ≤ 8 := by omega
      by_cases hk0 : 0 < k
      · have HKX := Lib.hid hkx
        clear hkx
        go_wp2_with fail
        refine (span_any g len cap a zs 60 w wr hgm2.out HR.out (by omega) (by omega)).mono ?_; rintro e w4 ⟨x1, x2, rfl, x10, x11, x12, x13, g4, gr4⟩
        obtain ⟨X1, rfl⟩ : ∃ n : Nat, x1 = n := ⟨x1.toNat, by omega⟩
        obtain ⟨X2, rfl⟩ : ∃ n : Nat, x2 = n := ⟨x2.toNat, by omega⟩
        have x14 : X1 < X2 := by omega
        have x15 : X2 ≤ 91 := by omega
        have own4 := Lib.hid (((own.out.grown gr4 (fun q hq => by cases hq; omega)).alloc (.cells #[.int .i64 X1, .int .i64 X2] 43)).alloc (.cells #[.int .i64 X1, .int .i64 X2] 43))
        have mk4 := Lib.hid (mk.out.other gr4 (by simp; omega))
        have s4 : bi + 1 ≤ w4.heap.size := Nat.le_trans hsz gr4.size
        have G4 := Lib.hid ((g4.alloc (.cells #[.int .i64 X1, .int .i64 X2] 43)).alloc (.cells #[.int .i64 X1, .int .i64 X2] 43))
        have OL := Lib.hid (World.ownsRow.lt (own.out.grown gr4 (fun q hq => by cases hq; omega)))
        have DR := Lib.hid (dr.out.snoc (a := X1) (b := X2) x10 x12 (by omega))
        clear hgm2 own mk g4 gr4 dr hsz x10 x11 x12 x13
        go_wp2_with (at_builtin; refine wpList_append_own _ rfl (.tmp 35) (.tmp 37) 41 rfl (bi + 1) 43 i0 _ 2 16 Tryd.underlying41 hi hz0 hz1 hz2 rfl (by decide) u4 xs.length (flat encSp xs) rfl own4.out ⟨w4.heap.size + 1, 0, none⟩ 1 1 (encSp (X1, X2)) rfl rfl ?qc1 ?qc2 ?qc3 ?qc4 ?qc5 ?_)
        case qc1 => exact cell_new2 _ _ (by simp) _ X1 X2
        case qc2 => exact encSp_one (X1, X2)
        case qc3 => unfold maxLen; omega
        case qc4 => omega
        case qc5 => simp; omega
        intro v' w5 hown' hgrow hnil'
        have OWN := Lib.hid (AggsAt.push hown')
        have G5 := Lib.hid (G4.out.own own4.out (by omega) hgrow)
        have M5 := Lib.hid ((((mk4.out.below ((Below.refl w4.heap.size w4).alloc (Nat.le_refl _) (.cells #[.int .i64 X1, .int .i64 X2] 43)) mk4.out.lt).below ((Below.refl _ _).alloc (Nat.le_refl _) (.cells #[.int .i64 X1, .int .i64 X2] 43)) (by simp; omega))).other hgrow (fun e => by have := (OL.out _ e.symm).1; omega))
        have P5 := Lib.hid (((SpAt.new w4 X1 X2 43).alloc (.cells #[.int .i64 X1, .int .i64 X2] 43)).other hgrow (fun e => by have := (OL.out _ e.symm).2; omega))
        have s5 : bi + 1 ≤ w5.heap.size := by have := hgrow.size; simp at this; omega
        clear hown' hgrow hnil' own4 mk4 G4 OL
        obtain ⟨q1, q2, -⟩ := P5.out
        go_wp2
        go_loopw [8] (fun i wr => ∃ f : Nat, X1 ≤ f ∧ f ≤ X2 ∧ i = .int .i64 f ∧ Hid (w5.grownBy wr (some bi)) ∧ Hid (Marks wr bi (fun t => memB xs t || decide (X1 ≤ t ∧ t < f)))) (fun i _ => X2 - (intOf i).toNat)
        case atStart => exact ⟨X1, Nat.le_refl _, by omega, rfl, gb_refl _ _, M5.out.congr (fun t ht => by
          show _ = (memB xs t || decide (X1 ≤ t ∧ t < X1))
          rw [decide_eq_false (p := X1 ≤ t ∧ t < X1) (by omega), Bool.or_false])⟩
        case round =>
          obtain ⟨f, hf0, hf1, rfl, gr, mk⟩ := hrel
          obtain ⟨q1, q2, -⟩ := P5.out.other gr.out (by simp; omega)
          by_cases hf : f < X2
          · obtain ⟨m0, m1⟩ := mk.out.get (t := f) (by omega)
            have MK := Lib.hid (mk.out.set f (by omega))
            go_wp2
            go_roundw
            case rel => exact ⟨f + 1, by omega, by omega, by go_num, gb_set _ gr.out, MK.out.congr (fun t ht => by
              show (memB xs t || decide (X1 ≤ t ∧ t < f) || decide (t = f)) = (memB xs t || decide (X1 ≤ t ∧ t < f + 1))
              rw [Bool.or_assoc]
              congr 1
              by_cases e : t = f
              · subst e; rw [decide_eq_true (p := t = t) rfl, Bool.or_true]; symm; exact decide_eq_true (by omega)
              · rw [decide_eq_false (p := t = f) e, Bool.or_false]
                by_cases e2 : X1 ≤ t ∧ t < f
                · rw [decide_eq_true e2]; symm; exact decide_eq_true (by omega)
                · rw [decide_eq_false e2]; symm; exact decide_eq_false (by omega))⟩
            case measure => simp [intOf]; omega
          · obtain rfl : f = X2 := by omega
            have MK := Lib.hid (mk.out.congr (q := fun t => memB (xs ++ [((X1 : Int), (f : Int))]) t) (fun t ht => by
              show (memB xs t || decide (X1 ≤ t ∧ t < f)) = _
              rw [memB_snoc]
              congr 1
              by_cases e2 : X1 ≤ t ∧ t < f
              · rw [decide_eq_true e2]; symm; exact decide_eq_true (by show (X1 : Int) ≤ t ∧ (t : Int) < f; omega)
              · rw [decide_eq_false e2]; symm; exact decide_eq_false (by show ¬ ((X1 : Int) ≤ t ∧ (t : Int) < f); omega)))
            have GG := Lib.hid (G5.out.grown gr.out (by simp; omega) (fun q hq => by cases hq; omega))
            have OO := Lib.hid (OWN.out.grown gr.out (fun q hq => by cases hq; omega))
            have SS := Nat.le_trans s5 gr.out.size
            have HK := HKX.out
            clear mk gr OWN G5 M5 P5
            go_wp2
            go_roundw
            case rel => exact ⟨k - 1, xs ++ [((X1 : Int), (f : Int))], by simp; omega, by go_num, GG, OO, MK, DR, SS⟩
            case measure => simp [intOf]; omega
      · obtain rfl : k = 0 := by omega
        have HX := Lib.hid hxl
        clear hkx hxl hk0
        obtain ⟨a4, cap4, rfl, hin⟩ := AggsAt.spIn own.out
        obtain ⟨n, hn⟩ : ∃ n, xs.length = n := ⟨_, rfl⟩
        have HN := Lib.hid hn
        have hn8 : n ≤ 8 := by rw [← hn]; exact HX.out
        rw [hn] at ⊢
        have IN := Lib.hid hin
        clear hin hn own
        go_wp2_with fail
        refine (union_any a4 n cap4 xs wr HN.out IN.out (by omega) dr.out.ok).mono ?_; rintro e w3 ⟨v, u, rfl, hu, own, b3⟩
        have MK3 := Lib.hid (mk.out.below b3 mk.out.lt)
        have B3 := Lib.hid (hgm2.out.below.trans (b3.mono hgm2.out.below.size))
        have IN3 := Lib.hid (IN.out.below b3)
        have VU := Lib.hid (hu.valid dr.out.ok)
        have HU := Lib.hid hu
        have hend := hu.ends (lo := 0) (hi := 91) (fun s hs => ⟨(dr.out s hs).1, (dr.out s hs).2.2⟩)
        have hml : (u.length : Int) ≤ 91 := by
          have h1 := total_le hu.1 hend (by decide)
          have h2 := len_total (l := u) (fun s hs => hu.1.2 s hs)
          omega
        have HE := Lib.hid hend
        obtain ⟨a9, cap9, rfl, hin9⟩ := AggsAt.spIn own
        obtain ⟨m, hm2⟩ : ∃ m, u.length = m := ⟨_, rfl⟩
        rw [hm2] at hml ⊢
        have hml2 : m ≤ 91 := by omega
        have HM := Lib.hid hm2
        have I9 := Lib.hid hin9
        clear hu own hin9 hm2 b3 hml hend mk IN hgm2 HX
        go_wp2_with fail
        refine (union_any a9 m cap9 u w3 HM.out I9.out (by omega) VU.out).mono ?_; rintro e w4 ⟨v', u', rfl, hu', own', b4⟩
        have eu : u = u' := (IsUnion.self HU.out.1).unique hu'
        subst eu
        obtain ⟨a11, cap11, rfl, hin11⟩ := AggsAt.spIn own'
        rw [HM.out]
        have I11 := Lib.hid hin11
        have I9b := Lib.hid (I9.out.below b4)
        have IN4 := Lib.hid (IN3.out.below b4)
        have MK4 := Lib.hid (MK3.out.below b4 MK3.out.lt)
        have B4 := Lib.hid (B3.out.trans (b4.mono B3.out.size))
        clear hu' own' hin11 I9 IN3 MK3 B3 b4
        go_wp2_with fail
        refine (minutes_any a4 n cap4 xs w4 HN.out IN4.out (by omega) dr.out.ok).mono ?_; rintro e w5 ⟨u', hu', rfl, b5⟩
        have eu : u = u' := HU.out.unique hu'
        subst eu
        have I9c := Lib.hid (I9b.out.below b5)
        have I11b := Lib.hid (I11.out.below b5)
        have MK5 := Lib.hid (MK4.out.below b5 MK4.out.lt)
        have B5 := Lib.hid (B4.out.trans (b5.mono B4.out.size))
        obtain ⟨M, hM⟩ : ∃ M, total u = M := ⟨_, rfl⟩
        rw [hM]
        have HMM := Lib.hid hM
        clear hu' I9b I11 IN4 MK4 B4 b5 hM
        have HIN : Hid (∀ j (h : j < u.length), ∃ b o, a9 = some ⟨b, o, none⟩ ∧ ∀ wr, Below w5.heap.size w5 wr → ∀ j (hj : j < u.length), wr.cell? ⟨b, o + j * 2, none⟩ = some (.int .i64 u[j].1) ∧ wr.cell? ⟨b, o + j * 2 + 1, none⟩ = some (.int .i64 u[j].2)) := fun j h => by
          obtain ⟨b, o, e, hb, hc⟩ := I9c.out.cells (fun e => by rw [e] at h; simp at h)
          exact ⟨b, o, e, fun wr bel j hj => ⟨by rw [bel.cell (p := ⟨b, o + j * 2, none⟩) hb]; exact (hc j hj).1, by rw [bel.cell (p := ⟨b, o + j * 2 + 1, none⟩) hb]; exact (hc j hj).2⟩⟩
        go_wp2
        go_loopw [15, 68] (fun c i wr => ∃ t : Nat, t ≤ 120 ∧ i = .int .i64 t ∧ c = .int .i64 (cnt (fun t => memB u t) t) ∧ Below w5.heap.size w5 wr) (fun _ i _ => 120 - (intOf i).toNat)
        case atStart => exact ⟨0, by omega, rfl, rfl, Below.refl _ _⟩
        case round =>
          obtain ⟨t, ht, rfl, rfl, bel⟩ := hrel
          obtain ⟨C0, C1⟩ := cnt_le (fun t => memB u t) t
          have HC := Lib.hid (cnt_succ (fun t => memB u t) t)
          obtain ⟨C, hC⟩ : ∃ C, cnt (fun t => memB u t) t = C := ⟨_, rfl⟩
          rw [hC] at C0 C1 HC ⊢
          have HCC := Lib.hid hC
          clear hC
          by_cases ht1 : t < 120
          · go_wp2
            go_loopw [17, 73] (fun h i wr2 => ∃ j : Nat, j ≤ m ∧ i = .int .i64 j ∧ h = .bool (memB (u.take j) t) ∧ Below w5.heap.size w5 wr2) (fun _ i _ => m - (intOf i).toNat)
            case atStart => exact ⟨0, Nat.zero_le _, rfl, rfl, bel⟩
            case round =>
              obtain ⟨j, hj, rfl, rfl, bel2⟩ := hrel
              obtain ⟨hb, hhb⟩ : ∃ b, memB (u.take j) t = b := ⟨_, rfl⟩
              rw [hhb]
              by_cases hjm : j < m
              · have hju : j < u.length := by rw [HM.out]; exact hjm
                obtain ⟨bk, o, rfl, hcc⟩ := HIN.out j hju
                obtain ⟨c0, c1⟩ := hcc wr bel2 j hju
                have hnx : Hid (memB (u.take (j + 1)) t = (hb || decide ((u[j]).1 ≤ (t : Int) ∧ (t : Int) < (u[j]).2))) := by
                  show _ = _
                  rw [take_next hju, memB_snoc, hhb]
                obtain ⟨x1, hx1⟩ : ∃ x, u[j].1 = x := ⟨_, rfl⟩
                obtain ⟨x2, hx2⟩ : ∃ x, u[j].2 = x := ⟨_, rfl⟩
                rw [hx1] at c0 hnx
                rw [hx2] at c1 hnx
                clear hcc hx1 hx2 hhb
                cases hb
                · by_cases e1 : x1 ≤ (t : Int)
                  · by_cases e2 : (t : Int) < x2
                    · rw [decide_eq_true ⟨e1, e2⟩] at hnx
                      go_wp2
                      go_roundw
                      case rel => exact ⟨j + 1, by omega, by go_num, by rw [hnx.out]; rfl, bel2.alloc bel2.size _⟩
                      case measure => simp [intOf]; omega
                    · rw [decide_eq_false (fun e => e2 e.2)] at hnx
                      go_wp2
                      go_roundw
                      case rel => exact ⟨j + 1, by omega, by go_num, by rw [hnx.out]; rfl, bel2.alloc bel2.size _⟩
                      case measure => simp [intOf]; omega
                  · rw [decide_eq_false (fun e => e1 e.1)] at hnx
                    go_wp2
                    go_roundw
                    case rel => exact ⟨j + 1, by omega, by go_num, by rw [hnx.out]; rfl, bel2.alloc bel2.size _⟩
                    case measure => simp [intOf]; omega
                · rw [Bool.true_or] at hnx
                  go_wp2
                  go_roundw
                  case rel => exact ⟨j + 1, by omega, by go_num, by rw [hnx.out], bel2.alloc bel2.size _⟩
                  case measure => simp [intOf]; omega
              · obtain rfl : j = m := by omega
                have e0 : memB u t = hb := by rw [← hhb, List.take_of_length_le (by rw [HM.out]; exact Nat.le_refl _)]
                obtain ⟨m0, -⟩ := (MK5.out.below bel2 MK5.out.lt).get ht1
                rw [show memB xs t = hb from by rw [← e0]; exact (memB_congr (HU.out.2 t)).symm] at m0
                have HC2 : Hid (cnt (fun t => memB u t) (t + 1) = C + (if hb = true then 1 else 0)) := by
                  rw [← e0]; exact HC.out
                clear hhb e0 HC
                cases hb
                · go_wp2
                  go_roundw
                  case rel => exact ⟨t + 1, by omega, by go_num, by rw [HC2.out]; simp, bel2⟩
                  case measure => simp [intOf]; omega
                · go_wp2
                  go_roundw
                  case rel => exact ⟨t + 1, by omega, by go_num, by rw [HC2.out]; simp, bel2⟩
                  case measure => simp [intOf]; omega
          · obtain rfl : t = 120 := by omega
            have hCM : C = M := by
              rw [← HCC.out, ← HMM.out]
              exact cnt_total 120 HU.out.1 (fun s hs => ⟨(HE.out s hs).1, by have := (HE.out s hs).2; omega⟩)
            clear HCC HC
            subst hCM
            clear HMM
            go_wp2
            go_loopw [20] (fun i wr2 => ∃ k : Nat, 1 ≤ k ∧ i = .int .i64 k ∧ (k ≤ m ∨ k = 1) ∧ Below w5.heap.size w5 wr2) (fun i _ => m + 1 - (intOf i).toNat)
            case atStart => exact ⟨1, Nat.le_refl _, rfl, .inr rfl, bel⟩
            case round =>
              obtain ⟨k, hk1, rfl, hk2, bel2⟩ := hrel
              by_cases hkm : k < m
              · have hku : k < u.length := by rw [HM.out]; exact hkm
                have hku1 : k - 1 < u.length := by omega
                obtain ⟨bk, o, rfl, hcc⟩ := HIN.out k hku
                obtain ⟨c0, -⟩ := hcc wr bel2 k hku
                obtain ⟨-, d1⟩ := hcc wr bel2 (k - 1) hku1
                have gap : (u[k - 1]).2 < (u[k]).1 := List.pairwise_iff_getElem.1 HU.out.1.1 (k - 1) k hku1 hku (by omega)
                obtain ⟨x1, hx1⟩ : ∃ x, u[k].1 = x := ⟨_, rfl⟩
                obtain ⟨x2, hx2⟩ : ∃ x, u[k - 1].2 = x := ⟨_, rfl⟩
                rw [hx1] at c0 gap
                rw [hx2] at d1 gap
                have tn : decide ((k : Int) - 1 < 0) = false := decide_eq_false (by omega)
                clear hcc hx1 hx2
                go_wp2
                go_quiet (fail)
                go_wp2
                go_roundw
                case rel => exact ⟨k + 1, by omega, by go_num, by omega, below_drewN bel2 _⟩
                case measure => simp [intOf]; omega
              · go_wp2_with fail
                refine (same_any a9 a11 m cap9 cap11 u wr HM.out (I9c.out.below bel2) (I11b.out.below bel2) (by omega)).mono ?_; rintro e w6 ⟨rfl, b6⟩
                have B6 := Lib.hid ((B5.out.trans (bel2.mono B5.out.size)).trans (b6.mono (Nat.le_trans B5.out.size bel2.size)))
                have H6 := Lib.hid (H.out.below B6.out)
                clear b6
                go_wp2_with fail
                refine (awake_any _ H6.out).mono ?_; rintro e w8 ⟨rfl, b8⟩
                go_wp2
                go_ret
                exact ⟨rfl, B6.out.trans (b8.mono B6.out.size)⟩
  · have t1 : decide ((len : Int) ≤ 400) = false := decide_eq_false (by omega)
    go_enter Tryd.func7, Tryd.ntmps7
    go_wp2_with fail
    refine (few_any _ _ _ _ hl).mono ?_; rintro e w' ⟨rfl, rfl⟩
    go_wp2_with fail
    refine (awake_any _ H.out).mono ?_; rintro e w8 ⟨rfl, b8⟩
    go_wp2
    go_ret
    exact ⟨rfl, b8⟩
end Go.Proofs.YticehhmfbpjamaaDoor.cal
