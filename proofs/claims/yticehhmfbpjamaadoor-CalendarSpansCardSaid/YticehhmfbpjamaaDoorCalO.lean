/- For every list of numbers CalendarOverlap returns true: two spans have in common what each minute says, whichever is named first. Condition: the listed tables hold what the program's text lays (the card ties that). -/
import Derived.Test.YticehhmfbpjamaaDoorCalW
import Derived.Test.YticehhmfbpjamaaDoorCalC
namespace Go.Proofs.YticehhmfbpjamaaDoor.cal
open Go.RowKit lex uni aggs deck kit

theorem ov_swap (a b : Sp) : ovB b a = ovB a b ∧ ovV b a = ovV a b := by
  have e1 : ovB b a = ovB a b := by unfold ovB; rw [Int.max_comm b.1, Int.min_comm b.2]; cases spOk a <;> cases spOk b <;> rfl
  refine ⟨e1, ?_⟩
  unfold ovV; rw [e1, Int.max_comm b.1, Int.min_comm b.2]
set_option maxRecDepth 100000 in
theorem eq_sp (x1 x2 y1 y2 : Int) (w : World) : (binOp .eql 43 (.agg #[.int .i64 x1, .int .i64 x2]) (.agg #[.int .i64 y1, .int .i64 y2])).run Tryd.prog w = .ok (.bool (x1 == y1 && x2 == y2)) w := by
  have u3 := Tryd.underlying3
  have a3 := Tryd.isAgg3
  have z3 := Tryd.sizeOf3
  have hS : Tryd.prog.underlying 43 = some (.struct (Tryd.prog.fieldsOf 43)) := by kernel_rfl
  have hp : Tryd.prog.stoodInHeld 43 = false := by kernel_rfl
  rw [run_eql_struct, show (10000 : Nat) = 9999 + 1 from rfl, run_equalIn_agg w 9999 43 _ _ hS hp]
  simp only [Program.fieldsOf, Tryd.underlying43]
  go_simp
  by_cases h1 : x1 = y1 <;> by_cases h2 : x2 = y2 <;> simp [h1, h2]
set_option maxRecDepth 100000 in
theorem neq_sp (x1 x2 y1 y2 : Int) (w : World) : (binOp .neq 43 (.agg #[.int .i64 x1, .int .i64 x2]) (.agg #[.int .i64 y1, .int .i64 y2])).run Tryd.prog w = .ok (.bool (!(x1 == y1 && x2 == y2))) w := by
  have h := eq_sp x1 x2 y1 y2 w
  rw [run_eql_struct] at h
  rw [run_neq_struct]
  cases hr : (Op.equalIn 10000 43 (.agg #[.int .i64 x1, .int .i64 x2]) (.agg #[.int .i64 y1, .int .i64 y2])).run Tryd.prog w with
  | ok b w' =>
    rw [hr] at h
    simp only [Result.andThen_ok] at h ⊢
    injection h with h1 h2
    injection h1 with h1
    rw [h1, h2]
  | _ => rw [hr] at h; simp [Result.andThen] at h
/-- a span's two cells -/
def SpAt (w : World) (g : Nat) (a b : Int) : Prop := w.cell? ⟨g, 0, none⟩ = some (.int .i64 a) ∧ w.cell? ⟨g, 1, none⟩ = some (.int .i64 b) ∧ g < w.heap.size
theorem SpAt.below {w w' : World} {g B : Nat} {a b : Int} (h : SpAt w g a b) (hb : Below B w w') (hB : g < B) : SpAt w' g a b :=
  ⟨by rw [hb.cell (p := ⟨g, 0, none⟩) hB]; exact h.1, by rw [hb.cell (p := ⟨g, 1, none⟩) hB]; exact h.2.1, Nat.lt_of_lt_of_le h.2.2 hb.size⟩
theorem SpAt.alloc {w : World} {g : Nat} {a b : Int} (h : SpAt w g a b) (o : Obj) : SpAt (w.alloc o) g a b :=
  h.below ((Below.refl w.heap.size w).alloc (Nat.le_refl _) o) h.2.2
theorem SpAt.new (w : World) (a b : Int) (T : Nat) : SpAt (w.alloc (.cells #[.int .i64 a, .int .i64 b] T)) w.heap.size a b := by
  refine ⟨?_, ?_, by simp⟩
  · rw [World.cell?_alloc_new]; rfl
  · rw [World.cell?_alloc_new]; rfl
theorem twosp_at (w w' : World) (a1 a2 b1 b2 : Int) (T : Nat) (h : Below ((w.alloc (.cells #[.int .i64 a1, .int .i64 a2] T)).alloc (.cells #[.int .i64 b1, .int .i64 b2] T)).heap.size ((w.alloc (.cells #[.int .i64 a1, .int .i64 a2] T)).alloc (.cells #[.int .i64 b1, .int .i64 b2] T)) w') :
    SpAt w' w.heap.size a1 a2 ∧ SpAt w' (w.heap.size + 1) b1 b2 ∧ Below w.heap.size w w' := by
  refine ⟨((SpAt.new w a1 a2 T).alloc _).below h (by simp; omega), ?_, ?_⟩
  · have e := SpAt.new (w.alloc (.cells #[.int .i64 a1, .int .i64 a2] T)) b1 b2 T
    simp only [World.size_alloc] at e
    exact e.below h (by simp)
  · exact (((Below.refl w.heap.size w).alloc (Nat.le_refl _) _).alloc (by simp) _).trans (h.mono (by simp; omega))
theorem onesp_at (w w' : World) (a1 a2 : Int) (T : Nat) (h : Below (w.alloc (.cells #[.int .i64 a1, .int .i64 a2] T)).heap.size (w.alloc (.cells #[.int .i64 a1, .int .i64 a2] T)) w') :
    SpAt w' w.heap.size a1 a2 ∧ Below w.heap.size w w' :=
  ⟨(SpAt.new w a1 a2 T).below h (by simp), ((Below.refl w.heap.size w).alloc (Nat.le_refl _) _).trans (h.mono (by simp))⟩
theorem four_in (w : World) (X : Obj) (a1 a2 b1 b2 : Int) (T : Nat) : SpIn ((w.alloc X).alloc (.cells #[.int .i64 a1, .int .i64 a2, .int .i64 b1, .int .i64 b2] T)) (some ⟨w.heap.size + 1, 0, none⟩) [(a1, a2), (b1, b2)] := by
  refine .inr ⟨_, 0, rfl, by simp, fun i u hu => ?_⟩
  rw [show (⟨w.heap.size + 1, 0 + i, none⟩ : Addr) = ⟨(w.alloc X).heap.size, i, none⟩ from by simp, World.cell?_alloc_new]
  have hi : i < 4 := by
    have h := (List.getElem?_eq_some_iff.1 hu).1
    simpa [flat, encSp] using h
  match i, hi with
  | 0, _ => simpa [flat, encSp] using hu
  | 1, _ => simpa [flat, encSp] using hu
  | 2, _ => simpa [flat, encSp] using hu
  | 3, _ => simpa [flat, encSp] using hu
/-- minute t is in both -/
def inB (f1 u1 f2 u2 : Int) (t : Nat) : Bool := decide (f1 ≤ (t : Int) ∧ (t : Int) < u1) && decide (f2 ≤ (t : Int) ∧ (t : Int) < u2)
theorem inB_yes {f1 u1 f2 u2 : Int} {t : Nat} (h1 : f1 ≤ (t : Int)) (h2 : (t : Int) < u1) (h3 : f2 ≤ (t : Int)) (h4 : (t : Int) < u2) : inB f1 u1 f2 u2 t = true := by
  unfold inB; rw [decide_eq_true ⟨h1, h2⟩, decide_eq_true ⟨h3, h4⟩]; rfl
theorem inB_no {f1 u1 f2 u2 : Int} {t : Nat} (h : ¬ (f1 ≤ (t : Int) ∧ (t : Int) < u1 ∧ f2 ≤ (t : Int) ∧ (t : Int) < u2)) : inB f1 u1 f2 u2 t = false := by
  unfold inB
  by_cases h1 : f1 ≤ (t : Int) ∧ (t : Int) < u1
  · rw [decide_eq_false (p := f2 ≤ (t : Int) ∧ (t : Int) < u2) (fun h2 => h ⟨h1.1, h1.2, h2.1, h2.2⟩), Bool.and_false]
  · rw [decide_eq_false h1, Bool.false_and]
theorem cnt_both {f1 u1 f2 u2 : Int} (h1 : 0 ≤ f1) (h2 : 0 ≤ f2) (h3 : u1 ≤ 60) (h4 : u2 ≤ 60) : cnt (inB f1 u1 f2 u2) 60 = max 0 (min u1 u2 - max f1 f2) := by
  by_cases h : max f1 f2 ≤ min u1 u2
  · rw [cnt_congr (q := fun t => decide (max f1 f2 ≤ (t : Int) ∧ (t : Int) < min u1 u2)) (fun t _ => ?_), cnt_span _ _ (by omega) h]
    · omega
    · by_cases hb : f1 ≤ (t : Int) ∧ (t : Int) < u1 ∧ f2 ≤ (t : Int) ∧ (t : Int) < u2
      · rw [inB_yes hb.1 hb.2.1 hb.2.2.1 hb.2.2.2]; symm; exact decide_eq_true (by omega)
      · rw [inB_no hb]; symm; exact decide_eq_false (by omega)
  · have e : cnt (inB f1 u1 f2 u2) 60 = cnt (fun _ => false) 60 := cnt_congr (fun t _ => inB_no (by omega))
    have z : cnt (fun _ => false) 60 = 0 := by unfold cnt; simp
    rw [e, z]; omega
theorem total_two {f1 u1 f2 u2 : Int} (h1 : 0 ≤ f1) (h2 : 0 ≤ f2) (h3 : u1 ≤ 60) (h4 : u2 ≤ 60) (g1 : f1 ≤ u1) (g2 : f2 ≤ u2) {u : List Sp} (hu : IsUnion [(f1, u1), (f2, u2)] u) :
    total u = u1 - f1 + u2 - f2 - cnt (inB f1 u1 f2 u2) 60 := by
  have e := cnt_total (l := u) 60 hu.1 (hu.ends (lo := 0) (hi := ((60 : Nat) : Int)) (fun s hs => by
    simp at hs
    rcases hs with rfl | rfl
    · exact ⟨h1, h3⟩
    · exact ⟨h2, h4⟩))
  rw [← e]
  have c : cnt (fun t => memB u t) 60 = cnt (fun t => decide (f1 ≤ (t : Int) ∧ (t : Int) < u1) || decide (f2 ≤ (t : Int) ∧ (t : Int) < u2)) 60 := cnt_congr (fun t _ => by
    rw [memB_congr (hu.2 t)]; unfold memB; simp)
  rw [c, cnt_either, cnt_span _ _ h1 g1, cnt_span _ _ h2 g2]
  show _ - cnt (inB f1 u1 f2 u2) 60 = _
  omega

theorem newg_any (len cap : Nat) (a : Option Addr) (w : World) :
    Calls Tryd.prog 22 #[.slice a len cap] w fun e w' => e = .returned (.pointer (some ⟨w.heap.size, 0, none⟩)) ∧ Game w w' w.heap.size a len cap :=
  (new_any len cap a w).mono fun e w' ⟨he, hd, hg, hs⟩ => ⟨he, ⟨(Below.refl _ _).grown hg (Nat.le_refl _) (fun k hk => by cases hk), hd, Nat.le_refl _⟩⟩

set_option maxRecDepth 100000 in
set_option maxHeartbeats 4000000 in
theorem overlap_walk (a : Option Addr) (len cap : Nat) (zs : List Int) (w : World) (hr : IsRow .i64 w a len cap zs) (h : CTabs w) :
    Calls Tryd.prog 8 #[.slice a len cap] w fun e w' => e = .returned (.bool true) ∧ Below w.heap.size w w' := by
  have hl : len ≤ 9223372036854775807 := by
    rcases hr with ⟨_, h, _⟩ | ⟨_, _, h1, h2, _⟩
    · omega
    · unfold maxLen at h2; omega
  have H := Lib.hid h
  have HR := Lib.hid hr
  clear h hr
  by_cases h4 : len ≤ 400
  · have t1 : decide ((len : Int) ≤ 400) = true := decide_eq_true (by omega)
    go_enter Tryd.func8, Tryd.ntmps8
    go_wp2_with fail
    refine (few_any _ _ _ _ hl).mono ?_; rintro e w' ⟨rfl, rfl⟩
    go_wp2_with fail
    refine (newg_any _ _ _ _).mono ?_; rintro e w1 ⟨rfl, g1⟩
    go_wp2_with fail
    refine (span_any _ _ _ _ _ 30 w _ g1 HR.out (by omega) (by omega)).mono ?_; rintro e w2 ⟨A1, A2, rfl, f10, f11, u10, u11, g2, -⟩
    clear g1 w1
    go_wp2_with fail
    refine (span_any _ _ _ _ _ 30 w _ g2 HR.out (by omega) (by omega)).mono ?_; rintro e w3 ⟨B1, B2, rfl, f20, f21, u20, u21, g3, -⟩
    clear g2 w2
    have B3 := Lib.hid g3.below
    clear g3
    have okA : spOk (A1, A2) = true := decide_eq_true (by show 0 ≤ A1 ∧ A1 < A2 ∧ A2 ≤ 16777216; omega)
    have okB : spOk (B1, B2) = true := decide_eq_true (by show 0 ≤ B1 ∧ B1 < B2 ∧ B2 ≤ 16777216; omega)
    obtain ⟨t, ht⟩ : ∃ t, ovB (A1, A2) (B1, B2) = t := ⟨_, rfl⟩
    obtain ⟨v1, v2, hv⟩ : ∃ v1 v2, ovV (A1, A2) (B1, B2) = (v1, v2) := ⟨_, _, rfl⟩
    have hk : ovB (A1, A2) (B1, B2) = spOk (max A1 B1, min A2 B2) := by unfold ovB; rw [okA, okB]; rfl
    have TV : Hid (t = true → v1 = max A1 B1 ∧ v2 = min A2 B2) := fun e => by
      rw [e] at ht; unfold ovV at hv; rw [ht, if_pos rfl] at hv; injection hv with e1 e2; exact ⟨e1.symm, e2.symm⟩
    have TF : Hid (t = true ↔ max A1 B1 < min A2 B2) := by
      show t = true ↔ _
      rw [← ht, hk]
      exact ⟨fun e => (of_decide_eq_true e).2.1, fun e => decide_eq_true ⟨by show 0 ≤ max A1 B1; omega, e, by show min A2 B2 ≤ 16777216; omega⟩⟩
    clear hk
    have O1 := Lib.hid (fun w => overlap_is (A1, A2) (B1, B2) v1 v2 t hv ht w)
    have O2 := Lib.hid (fun w => overlap_is (B1, B2) (A1, A2) v1 v2 t ((ov_swap _ _).2.trans hv) ((ov_swap _ _).1.trans ht) w)
    have VA := Lib.hid (fun w => valid_is A1 A2 true okA w)
    have HT := Lib.hid ht
    have HV := Lib.hid hv
    have OKA := Lib.hid okA
    have OKB := Lib.hid okB
    clear ht hv okA okB
    go_wp2_with fail
    refine (O1.out _).mono ?_; rintro e w4 ⟨rfl, b4⟩
    obtain ⟨p1, p2, p3⟩ := twosp_at _ _ _ _ _ _ _ b4
    have B4 := Lib.hid (B3.out.trans (p3.mono B3.out.size))
    clear b4 p3
    obtain ⟨g, hg⟩ : ∃ g, w3.heap.size = g := ⟨_, rfl⟩
    rw [hg] at p1 p2 ⊢
    have P1 := Lib.hid p1
    have P2 := Lib.hid p2
    obtain ⟨q1, q2, q3⟩ := p1.alloc (.cells #[.int .i64 v1, .int .i64 v2] 43)
    obtain ⟨q4, q5, q6⟩ := p2.alloc (.cells #[.int .i64 v1, .int .i64 v2] 43)
    clear p1 p2
    go_wp2_with fail
    refine (O2.out _).mono ?_; rintro e w5 ⟨rfl, b5⟩
    clear q1 q2 q3 q4 q5 q6
    obtain ⟨p3, p4⟩ := onesp_at _ _ _ _ _ b5
    have B5 := Lib.hid (B4.out.trans (p4.mono B4.out.size))
    have p1 := P1.out.below p4 P1.out.2.2
    have p2 := P2.out.below p4 P2.out.2.2
    clear b5 p4 P1 P2
    obtain ⟨x, hx⟩ : ∃ x, w4.heap.size = x := ⟨_, rfl⟩
    rw [hx] at p3 ⊢
    clear hx B4
    have P1 := Lib.hid p1
    have P2 := Lib.hid p2
    have P3 := Lib.hid p3
    obtain ⟨q1, q2, -⟩ := p1.alloc (.cells #[.int .i64 v1, .int .i64 v2] 43)
    obtain ⟨q4, q5, -⟩ := p2.alloc (.cells #[.int .i64 v1, .int .i64 v2] 43)
    obtain ⟨q7, q8, -⟩ := p3.alloc (.cells #[.int .i64 v1, .int .i64 v2] 43)
    clear p1 p2 p3
    go_wp2_with fail
    go_loop [10, 11] (fun a i => ∃ k : Nat, k ≤ 60 ∧ i = .int .i64 k ∧ a = .int .i64 (cnt (inB A1 A2 B1 B2) k)) (fun _ i => 60 - (intOf i).toNat)
    case atStart => exact ⟨0, by omega, rfl, rfl⟩
    case round =>
      obtain ⟨k, hk, rfl, rfl⟩ := hrel
      obtain ⟨C0, C1⟩ := cnt_le (inB A1 A2 B1 B2) k
      have HC := Lib.hid (cnt_succ (inB A1 A2 B1 B2) k)
      have HN : Hid (¬ (A1 ≤ (k : Int) ∧ (k : Int) < A2 ∧ B1 ≤ (k : Int) ∧ (k : Int) < B2) → (if inB A1 A2 B1 B2 k then (1 : Int) else 0) = 0) := fun h => by rw [inB_no h]; rfl
      have HY : Hid (A1 ≤ (k : Int) → (k : Int) < A2 → B1 ≤ (k : Int) → (k : Int) < B2 → (if inB A1 A2 B1 B2 k then (1 : Int) else 0) = 1) := fun h1 h2 h3 h4 => by rw [inB_yes h1 h2 h3 h4]; rfl
      obtain ⟨C, hC⟩ : ∃ C, cnt (inB A1 A2 B1 B2) k = C := ⟨_, rfl⟩
      rw [hC] at C0 C1 HC ⊢
      have HCC := Lib.hid hC
      clear hC
      by_cases hlt : k < 60
      · by_cases h1 : A1 ≤ (k : Int)
        · by_cases h2 : (k : Int) < A2
          · by_cases h3 : B1 ≤ (k : Int)
            · by_cases h4 : (k : Int) < B2
              · have e := HY.out h1 h2 h3 h4
                rw [e] at HC
                cases t
                · exact absurd (TF.out.2 (by omega)) Bool.false_ne_true
                · obtain ⟨y1, y2⟩ := TV.out rfl
                  have z1 : v1 ≤ (k : Int) := by omega
                  have z2 : (k : Int) < v2 := by omega
                  clear y1 y2
                  go_wp2
                  go_round
                  case rel => exact ⟨k + 1, by omega, by go_num, by rw [HC.out]⟩
                  case measure => simp [intOf]; omega
              · have e := HN.out (by omega)
                rw [e, Int.add_zero] at HC
                cases t
                · go_wp2
                  go_round
                  case rel => exact ⟨k + 1, by omega, by go_num, by rw [HC.out]⟩
                  case measure => simp [intOf]; omega
                · obtain ⟨y1, y2⟩ := TV.out rfl
                  by_cases z1 : v1 ≤ (k : Int)
                  · by_cases z2 : (k : Int) < v2
                    · exfalso; omega
                    · clear y1 y2
                      go_wp2
                      go_round
                      case rel => exact ⟨k + 1, by omega, by go_num, by rw [HC.out]⟩
                      case measure => simp [intOf]; omega
                  · clear y1 y2
                    go_wp2
                    go_round
                    case rel => exact ⟨k + 1, by omega, by go_num, by rw [HC.out]⟩
                    case measure => simp [intOf]; omega
            · have e := HN.out (by omega)
              rw [e, Int.add_zero] at HC
              cases t
              · go_wp2
                go_round
                case rel => exact ⟨k + 1, by omega, by go_num, by rw [HC.out]⟩
                case measure => simp [intOf]; omega
              · obtain ⟨y1, y2⟩ := TV.out rfl
                by_cases z1 : v1 ≤ (k : Int)
                · by_cases z2 : (k : Int) < v2
                  · exfalso; omega
                  · clear y1 y2
                    go_wp2
                    go_round
                    case rel => exact ⟨k + 1, by omega, by go_num, by rw [HC.out]⟩
                    case measure => simp [intOf]; omega
                · clear y1 y2
                  go_wp2
                  go_round
                  case rel => exact ⟨k + 1, by omega, by go_num, by rw [HC.out]⟩
                  case measure => simp [intOf]; omega
          · have e := HN.out (by omega)
            rw [e, Int.add_zero] at HC
            cases t
            · go_wp2
              go_round
              case rel => exact ⟨k + 1, by omega, by go_num, by rw [HC.out]⟩
              case measure => simp [intOf]; omega
            · obtain ⟨y1, y2⟩ := TV.out rfl
              by_cases z1 : v1 ≤ (k : Int)
              · by_cases z2 : (k : Int) < v2
                · exfalso; omega
                · clear y1 y2
                  go_wp2
                  go_round
                  case rel => exact ⟨k + 1, by omega, by go_num, by rw [HC.out]⟩
                  case measure => simp [intOf]; omega
              · clear y1 y2
                go_wp2
                go_round
                case rel => exact ⟨k + 1, by omega, by go_num, by rw [HC.out]⟩
                case measure => simp [intOf]; omega
        · have e := HN.out (by omega)
          rw [e, Int.add_zero] at HC
          cases t
          · go_wp2
            go_round
            case rel => exact ⟨k + 1, by omega, by go_num, by rw [HC.out]⟩
            case measure => simp [intOf]; omega
          · obtain ⟨y1, y2⟩ := TV.out rfl
            by_cases z1 : v1 ≤ (k : Int)
            · by_cases z2 : (k : Int) < v2
              · exfalso; omega
              · clear y1 y2
                go_wp2
                go_round
                case rel => exact ⟨k + 1, by omega, by go_num, by rw [HC.out]⟩
                case measure => simp [intOf]; omega
            · clear y1 y2
              go_wp2
              go_round
              case rel => exact ⟨k + 1, by omega, by go_num, by rw [HC.out]⟩
              case measure => simp [intOf]; omega
      · obtain rfl : k = 60 := by omega
        have hcb := cnt_both (f1 := A1) (u1 := A2) (f2 := B1) (u2 := B2) f10 f20 (by omega) (by omega)
        rw [HCC.out] at hcb
        have HCB := Lib.hid hcb
        clear hcb HC HN HY
        go_wp2_with fail
        refine (minutes_any _ 2 2 [(A1, A2), (B1, B2)] _ rfl (four_in _ _ _ _ _ _ _) (by decide) (fun s hs => by
          simp at hs
          rcases hs with rfl | rfl
          · exact OKA.out
          · exact OKB.out)).mono ?_; rintro e w6 ⟨u, hu, rfl, b6⟩
        have hT := total_two f10 f20 (by omega) (by omega) (by omega) (by omega) hu
        rw [HCC.out] at hT
        obtain ⟨M, hM⟩ : ∃ M, total u = M := ⟨_, rfl⟩
        rw [hM] at hT ⊢
        clear hM hu
        subst hT
        clear HCC
        have b5' := (((Below.refl w5.heap.size w5).alloc (Nat.le_refl _) (.cells #[.int .i64 v1, .int .i64 v2] 43)).alloc (by simp) (.cells #[.int .i64 A1, .int .i64 A2, .int .i64 B1, .int .i64 B2] 43)).trans (b6.mono (by simp; omega))
        have B6 := Lib.hid (B5.out.trans (b5'.mono B5.out.size))
        clear q1 q2 q4 q5 q7 q8
        obtain ⟨q1, q2, -⟩ := P1.out.below b5' P1.out.2.2
        obtain ⟨q4, q5, -⟩ := P2.out.below b5' P2.out.2.2
        obtain ⟨q7, q8, -⟩ := P3.out.below b5' P3.out.2.2
        obtain ⟨q9, q10, -⟩ := ((SpAt.new w5 v1 v2 43).alloc (.cells #[.int .i64 A1, .int .i64 A2, .int .i64 B1, .int .i64 B2] 43)).below b6 (by simp; omega)
        clear b5' b6 P1 P2 P3 B5
        have E : ∀ w, (binOp .eql 43 (.agg #[.int .i64 v1, .int .i64 v2]) (.agg #[.int .i64 v1, .int .i64 v2])).run Tryd.prog w = .ok (.bool true) w := fun w => by rw [eq_sp]; simp
        cases t
        · have hz : C = 0 := by
            have := HCB.out
            have h2 : ¬ (max A1 B1 < min A2 B2) := fun e => Bool.false_ne_true (TF.out.2 e)
            omega
          subst hz
          clear HCB
          go_wp2_with fail
          refine (VA.out _).mono ?_; rintro e w7 ⟨rfl, b7⟩
          have B7 := Lib.hid (B6.out.trans (b7.mono B6.out.size))
          have H7 := Lib.hid (H.out.below B7.out)
          clear b7 B6
          go_wp2_with fail
          refine (awake_any _ H7.out).mono ?_; rintro e w8 ⟨rfl, b8⟩
          go_wp2
          go_ret
          exact ⟨rfl, B7.out.trans (b8.mono B7.out.size)⟩
        · have hz : 0 < C := by
            have := HCB.out
            have h2 := TF.out.1 rfl
            omega
          clear HCB
          go_wp2_with fail
          refine (VA.out _).mono ?_; rintro e w7 ⟨rfl, b7⟩
          have B7 := Lib.hid (B6.out.trans (b7.mono B6.out.size))
          have H7 := Lib.hid (H.out.below B7.out)
          clear b7 B6
          go_wp2_with fail
          refine (awake_any _ H7.out).mono ?_; rintro e w8 ⟨rfl, b8⟩
          go_wp2
          go_ret
          exact ⟨rfl, B7.out.trans (b8.mono B7.out.size)⟩
  · have t1 : decide ((len : Int) ≤ 400) = false := decide_eq_false (by omega)
    go_enter Tryd.func8, Tryd.ntmps8
    go_wp2_with fail
    refine (few_any _ _ _ _ hl).mono ?_; rintro e w' ⟨rfl, rfl⟩
    go_wp2_with fail
    refine (awake_any _ H.out).mono ?_; rintro e w8 ⟨rfl, b8⟩
    go_wp2
    go_ret
    exact ⟨rfl, b8⟩
end Go.Proofs.YticehhmfbpjamaaDoor.cal
