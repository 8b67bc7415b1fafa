/- The walk of sort.Search at placeOf's closure, and placeOf: the place of a name in a list that ascends. No condition but that order. -/
import Derived.Test.YthdjpmiohfaphaaGreatDoorPgB
import Derived.Deep.LoopGhost
namespace Go.Proofs.YthdjpmiohfaphaaGreatDoor.reg
open Go.RowKit lex aggs kit net

/-- who stands before a name: the first ones -/
theorem pos_is {ps : List Pn} (h : Up ps) {s : ByteArray} {n : Nat} (hn : n ≤ ps.length) (h1 : ∀ k (hk : k < ps.length), k < n → lt ps[k].nm s = true) (h2 : ∀ k (hk : k < ps.length), n ≤ k → lt ps[k].nm s = false) : pos ps s = n := by
  unfold pos
  induction ps generalizing n with
  | nil => simp at hn; subst hn; rfl
  | cons x r ih =>
    cases n with
    | zero =>
      have := h2 0 (by simp) (Nat.le_refl _)
      rw [List.getElem_cons_zero] at this
      rw [List.takeWhile_cons, this]; rfl
    | succ n =>
      have := h1 0 (by simp) (by omega)
      rw [List.getElem_cons_zero] at this
      rw [List.takeWhile_cons, this]
      have e := ih h.of_cons (n := n) (by simpa using hn) (fun k hk hkn => h1 (k + 1) (by simpa using hk) (by omega)) (fun k hk hkn => h2 (k + 1) (by simpa using hk) (by omega))
      simp only [if_true, List.length_cons, e]
theorem geq_is (x y : ByteArray) : (!(Go.Op.bytesLess x.toList y.toList)) = !lt x y := by
  rw [Lib.toList_data, Lib.toList_data]; rfl
/-- what lies in the two boxes of the closure -/
structure Box2 (W : World) (p q : Nat) (a : Option Addr) (N c : Nat) (s : ByteArray) : Prop where
  one : OneAt W p (.slice a N c)
  two : OneAt W q (.string s)
set_option maxRecDepth 100000 in
theorem closure_is (a : Option Addr) (N c p q : Nat) (ps : List Pn) (s : ByteArray) (j : Nat) (hj : j < N) (b : Bool) (w : World) (h : RegIn w a N c ps) (hB : Box2 w p q a N c s) (hb : lt (ps.getD j default).nm s = b) :
    Calls Tryz.prog 50 #[.int .i64 j, .pointer (some ⟨p, 0, none⟩), .pointer (some ⟨q, 0, none⟩)] w fun e w' => e = .returned (.bool (!b)) ∧ ∃ n, w' = w.drewN n := by
  obtain ⟨⟨k1, -⟩, ⟨k2, -⟩⟩ := hB
  have hjx : j < ps.length := by rw [h.len]; exact hj
  have n1 := h.ncap
  have n2 := h.nmax
  unfold maxLen at n2
  obtain ⟨g, o, hae, hg, hc⟩ := h.rin.some (by omega)
  subst hae
  have c0 := (cells_pn hc j hjx).1
  rw [List.getD_eq_getElem?_getD, List.getElem?_eq_getElem hjx, Option.getD_some] at hb
  obtain ⟨nm, hnm⟩ : ∃ z, ps[j].nm = z := ⟨_, rfl⟩
  rw [hnm] at c0 hb
  have TG : (!(Go.Op.bytesLess nm.toList s.toList)) = !b := by rw [geq_is, hb]
  clear hc hnm hb h
  go_enter Tryz.func50, Tryz.ntmps50
  go_wp2
  go_quiet (fail)
  go_wp2
  go_ret
  exact ⟨rfl, _, rfl⟩
theorem Box2.drewN {W : World} {p q : Nat} {a : Option Addr} {N c : Nat} {s : ByteArray} (h : Box2 W p q a N c s) (n : Nat) : Box2 (W.drewN n) p q a N c s := ⟨h.one, h.two⟩
theorem RegIn.drewN {w : World} {a : Option Addr} {N c : Nat} {ps : List Pn} (h : RegIn w a N c ps) (n : Nat) : RegIn (w.drewN n) a N c ps := h.below (below_drewN (Below.refl _ _) n)
theorem lt_mono {ps : List Pn} (h : Up ps) {s : ByteArray} {i j : Nat} (hij : i ≤ j) (hj : j < ps.length) (hl : lt (ps.getD i default).nm s = false) : lt (ps.getD j default).nm s = false := by
  rcases Nat.lt_or_eq_of_le hij with h1 | rfl
  · have := List.pairwise_iff_getElem.1 h i j (by omega) hj h1
    rw [List.getD_eq_getElem?_getD, List.getElem?_eq_getElem (by omega), Option.getD_some] at hl
    rw [List.getD_eq_getElem?_getD, List.getElem?_eq_getElem hj, Option.getD_some]
    cases e : lt ps[j].nm s with
    | false => rfl
    | true => have := lt_trans this e; rw [hl] at this; cases this
  · exact hl
set_option maxRecDepth 100000 in
set_option maxHeartbeats 4000000 in
theorem search_is (a : Option Addr) (N c p q : Nat) (ps : List Pn) (s : ByteArray) (w : World) (h : RegIn w a N c ps) (h64 : N ≤ 64) (hU : Up ps) (hB : Box2 w p q a N c s) :
    Calls Tryz.prog 49 #[.int .i64 N, .func (.func 50) #[] #[.pointer (some ⟨p, 0, none⟩), .pointer (some ⟨q, 0, none⟩)]] w fun e w' => e = .returned (.int .i64 (pos ps s)) ∧ ∃ n, w' = w.drewN n := by
  have CL := Lib.hid (fun j (hj : j < N) b (hb : lt (ps.getD j default).nm s = b) n => closure_is a N c p q ps s j hj b (w.drewN n) (h.drewN n) (hB.drewN n) hb)
  have HU := Lib.hid hU
  have hn := Lib.hid h.len
  have n1 := h.ncap
  have n2 := h.nmax
  unfold maxLen at n2
  obtain ⟨P, hP⟩ : ∃ P, pos ps s = P := ⟨_, rfl⟩
  rw [hP]
  have HP := Lib.hid hP
  clear h hU hB hP
  go_enter Tryz.func49, Tryz.ntmps49
  go_wp2
  go_loopg [5, 6] N (fun kx s5 s6 wr => ∃ (lo hi n : Nat), s5 = .int .i64 lo ∧ s6 = .int .i64 hi ∧ lo ≤ hi ∧ hi ≤ N ∧ hi - lo ≤ kx ∧ wr = w.drewN n ∧
    Hid ((∀ t, t < lo → lt (ps.getD t default).nm s = true) ∧ (∀ t, hi ≤ t → t < N → lt (ps.getD t default).nm s = false)))
  case atStart => exact ⟨0, N, 0, rfl, rfl, Nat.zero_le _, Nat.le_refl _, by omega, rfl, ⟨fun t ht => absurd ht (Nat.not_lt_zero _), fun t h1 h2 => by omega⟩⟩
  case round => as_aux_lemma =>
    obtain ⟨lo, hi, n, rfl, rfl, hlh, hin, hg, rfl, I⟩ := hrel
    by_cases hlt : lo < hi
    · cases hp : lt (ps.getD ((lo + hi) / 2) default).nm s with
      | true =>
        have hc := CL.out ((lo + hi) / 2) (by omega) _ hp n
        rw [show (((lo + hi) / 2 : Nat) : Int) = ((lo : Int) + (hi : Int)) / 2 by omega] at hc
        have HPt := Lib.hid hp
        clear hp
        go_wp2_with fail
        refine hc.mono ?_; rintro e w' ⟨rfl, nq, rfl⟩
        go_wp2
        go_roundg (hi - ((lo + hi) / 2 + 1))
        case measure => omega
        case rel =>
          have I2 : Hid ((∀ t, t < (lo + hi) / 2 + 1 → lt (ps.getD t default).nm s = true) ∧ (∀ t, hi ≤ t → t < N → lt (ps.getD t default).nm s = false)) := ⟨fun t ht => (by
            cases h : lt (ps.getD t default).nm s with
            | true => rfl
            | false => have := lt_mono HU.out (show t ≤ (lo + hi) / 2 by omega) (by rw [hn.out]; omega) h; rw [HPt.out] at this; cases this), I.out.2⟩
          exact ⟨(lo + hi) / 2 + 1, hi, n + nq, by rw [show ((lo : Int) + (hi : Int)) / 2 + 1 = (((lo + hi) / 2 + 1 : Nat) : Int) by omega], rfl, by omega, hin, Nat.le_refl _, rfl, I2⟩
      | false =>
        have hc := CL.out ((lo + hi) / 2) (by omega) _ hp n
        rw [show (((lo + hi) / 2 : Nat) : Int) = ((lo : Int) + (hi : Int)) / 2 by omega] at hc
        have HPt := Lib.hid hp
        clear hp
        go_wp2_with fail
        refine hc.mono ?_; rintro e w' ⟨rfl, nq, rfl⟩
        go_wp2
        go_roundg ((lo + hi) / 2 - lo)
        case measure => omega
        case rel =>
          have I2 : Hid ((∀ t, t < lo → lt (ps.getD t default).nm s = true) ∧ (∀ t, (lo + hi) / 2 ≤ t → t < N → lt (ps.getD t default).nm s = false)) := ⟨I.out.1, fun t ht htn => lt_mono HU.out ht (by rw [hn.out]; exact htn) HPt.out⟩
          exact ⟨lo, (lo + hi) / 2, n + nq, rfl, by rw [show ((lo : Int) + (hi : Int)) / 2 = (((lo + hi) / 2 : Nat) : Int) by omega], by omega, by omega, Nat.le_refl _, rfl, I2⟩
    · obtain rfl : hi = lo := by omega
      have ecnt : P = hi := by
        rw [← HP.out]
        refine pos_is HU.out (by rw [hn.out]; exact hin) (fun k hk hkn => ?_) (fun k hk hkn => ?_)
        · have := I.out.1 k hkn
          rwa [List.getD_eq_getElem?_getD, List.getElem?_eq_getElem hk] at this
        · have := I.out.2 k hkn (by rw [← hn.out]; exact hk)
          rwa [List.getD_eq_getElem?_getD, List.getElem?_eq_getElem hk] at this
      subst ecnt
      go_wp2
      go_ret
      exact ⟨rfl, n, rfl⟩
theorem takeW_le {α : Type} (f : α → Bool) : ∀ l : List α, (l.takeWhile f).length ≤ l.length
  | [] => Nat.le_refl _
  | x :: r => by
    rw [List.takeWhile_cons]
    cases f x with
    | true => simpa using takeW_le f r
    | false => simp
theorem pos_le (ps : List Pn) (s : ByteArray) : pos ps s ≤ ps.length := takeW_le _ _
theorem takeW_at {α : Type} (f : α → Bool) : ∀ (l : List α) (h : (l.takeWhile f).length < l.length), f (l[(l.takeWhile f).length]) = false
  | [], h => by cases h
  | x :: r, h => by
    cases e : f x with
    | true =>
      have e1 : (List.takeWhile f (x :: r)).length = (List.takeWhile f r).length + 1 := by rw [List.takeWhile_cons, e]; rfl
      have h2 : (List.takeWhile f r).length < r.length := by rw [e1] at h; simpa using h
      have := takeW_at f r h2
      simpa only [e1, List.getElem_cons_succ] using this
    | false =>
      have e1 : (List.takeWhile f (x :: r)).length = 0 := by rw [List.takeWhile_cons, e]; rfl
      simpa only [e1, List.getElem_cons_zero] using e
theorem takeW_lt {α : Type} (f : α → Bool) : ∀ (l : List α) (k : Nat) (hk : k < l.length), k < (l.takeWhile f).length → f l[k] = true
  | [], _, hk, _ => by cases hk
  | x :: r, k, hk, h => by
    cases e : f x with
    | true =>
      cases k with
      | zero => exact e
      | succ k =>
        have e1 : (List.takeWhile f (x :: r)).length = (List.takeWhile f r).length + 1 := by rw [List.takeWhile_cons, e]; rfl
        exact takeW_lt f r k (by simpa using hk) (by omega)
    | false =>
      have e1 : (List.takeWhile f (x :: r)).length = 0 := by rw [List.takeWhile_cons, e]; rfl
      omega
/-- whether a name is there: whether it stands at its place -/
theorem fnd_pos {ps : List Pn} (h : Up ps) (s : ByteArray) (h1 : pos ps s < ps.length) (h2 : ps[pos ps s].nm = s) : fnd (nmsP ps) s = pos ps s := fnd_at h h1 (s := s) h2
theorem fnd_not {ps : List Pn} (h : Up ps) (s : ByteArray) (h2 : ∀ h1 : pos ps s < ps.length, ps[pos ps s].nm ≠ s) : fnd (nmsP ps) s = -1 := by
  refine fnd_none fun k hk e => ?_
  have hkx : k < ps.length := by simpa [nmsP] using hk
  have e1 : ps[k].nm = s := by simpa [nmsP] using e
  by_cases hkp : k < pos ps s
  · have := takeW_lt (fun x : Pn => lt x.nm s) ps k hkx hkp
    rw [e1, lt_irr] at this; cases this
  · have hp : pos ps s < ps.length := by omega
    have hf : lt (ps[pos ps s]).nm s = false := takeW_at (fun x : Pn => lt x.nm s) ps hp
    rcases Nat.lt_or_eq_of_le (Nat.le_of_not_lt hkp) with h3 | h3
    · have := List.pairwise_iff_getElem.1 h (pos ps s) k hp hkx h3
      rw [e1, hf] at this; cases this
    · exact h2 hp (by simpa only [h3] using e1)
theorem Box2.new (W : World) (a : Option Addr) (N c : Nat) (s : ByteArray) : Box2 ((W.alloc (.cells #[.slice a N c] 23)).alloc (.cells #[.string s] 9)) W.heap.size (W.heap.size + 1) a N c s := by
  have h1 := OneAt.new W (.slice a N c) 23
  have h2 := OneAt.new (W.alloc (.cells #[.slice a N c] 23)) (.string s) 9
  rw [World.size_alloc] at h2
  exact ⟨h1.below (below_box _ _) h1.2, h2⟩
set_option maxRecDepth 100000 in
set_option maxHeartbeats 4000000 in
theorem placeOf_is (a : Option Addr) (N c : Nat) (ps : List Pn) (s : ByteArray) (P : Nat) (b : Bool) (w : World) (h : RegIn w a N c ps) (h64 : N ≤ 64) (hU : Up ps) (hP : pos ps s = P) (hb : decide (fnd (nmsP ps) s ≠ -1) = b) :
    Calls Tryz.prog 30 #[.slice a N c, .string s] w fun e w' => e = .returned (.tuple #[.int .i64 P, .bool b]) ∧ Below w.heap.size w w' := by
  have bx := below_box w (.cells #[.slice a N c] 23)
  have bz := below_box (w.alloc (.cells #[.slice a N c] 23)) (.cells #[.string s] 9)
  have BX := Lib.hid (bx.trans (bz.mono bx.size))
  have B2 := Box2.new w a N c s
  have HR := h.below BX.out
  have SR := Lib.hid (search_is a N c w.heap.size (w.heap.size + 1) ps s _ HR h64 hU B2)
  rw [hP] at SR
  have hPl : P ≤ N := by rw [← hP, ← h.len]; exact pos_le ps s
  have n1 := h.ncap
  have n2 := h.nmax
  unfold maxLen at n2
  obtain ⟨⟨k1, -⟩, ⟨k2, -⟩⟩ := B2
  have hn := h.len
  by_cases hlt : P < N
  · have hlt2 : (P : Int) < (N : Int) := by omega
    have hPx : P < ps.length := by omega
    obtain ⟨g, o, hae, hg, hc⟩ := HR.rin.some (by omega)
    subst hae
    have c0 := (cells_pn hc P hPx).1
    obtain ⟨nm, hnm⟩ : ∃ z, ps[P].nm = z := ⟨_, rfl⟩
    rw [hnm] at c0
    by_cases e : nm = s
    · have TE : (nm.toList == s.toList) = true := by rw [str_eq]; exact decide_eq_true e
      have hb1 : b = true := by
        rw [← hb, fnd_pos hU s (by omega) (by simpa only [hP] using hnm.trans e)]
        exact decide_eq_true (by omega)
      subst hb1
      clear hb e hc hnm h HR hU hP
      go_enter Tryz.func30, Tryz.ntmps30
      go_wp2_with fail
      refine SR.out.mono ?_; rintro e w2 ⟨rfl, m, rfl⟩
      go_wp2
      go_quiet (fail)
      go_wp2
      go_ret2
      exact ⟨rfl, below_drewN (below_drewN BX.out _) _⟩
    · have TE : (nm.toList == s.toList) = false := by rw [str_eq]; exact decide_eq_false e
      have hb1 : b = false := by
        rw [← hb, fnd_not hU s (fun h1 => by simpa only [hP, hnm] using e)]
        rfl
      subst hb1
      clear hb e hc hnm h HR hU hP
      go_enter Tryz.func30, Tryz.ntmps30
      go_wp2_with fail
      refine SR.out.mono ?_; rintro e w2 ⟨rfl, m, rfl⟩
      go_wp2
      go_quiet (fail)
      go_wp2
      go_ret2
      exact ⟨rfl, below_drewN (below_drewN BX.out _) _⟩
  · obtain rfl : P = N := by omega
    have hb1 : b = false := by
      rw [← hb, fnd_not hU s (fun h1 => by omega)]
      rfl
    subst hb1
    have TP : decide ((P : Int) < (P : Int)) = false := decide_eq_false (by omega)
    clear hb h HR hU hP hn
    go_enter Tryz.func30, Tryz.ntmps30
    go_wp2_with fail
    refine SR.out.mono ?_; rintro e w2 ⟨rfl, m, rfl⟩
    go_wp2
    go_quiet (fail)
    go_wp2
    go_ret2
    exact ⟨rfl, below_drewN (below_drewN BX.out _) _⟩
end Go.Proofs.YthdjpmiohfaphaaGreatDoor.reg
