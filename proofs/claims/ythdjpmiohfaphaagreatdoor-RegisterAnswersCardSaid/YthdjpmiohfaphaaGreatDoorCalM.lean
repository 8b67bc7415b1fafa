/- The plain facts on times and their texts that the proofs of layer 2 use. No program in this text. -/
import Derived.Test.YthdjpmiohfaphaaGreatDoorLexM
import Derived.Lib.IndexMore
namespace Go.Proofs.YthdjpmiohfaphaaGreatDoor.cal
open lex

/-! times -/
def isTm (t : Int) : Bool := decide (0 ≤ t ∧ t ≤ 16777216)
def mkOk (d h m : Int) : Bool := decide (0 ≤ d ∧ 0 ≤ h ∧ h ≤ 23 ∧ 0 ≤ m ∧ m ≤ 59 ∧ 1440 * d + 60 * h + m ≤ 16777216)
def mkV (d h m : Int) : Int := if mkOk d h m then 1440 * d + 60 * h + m else 0
def mkE (d h m : Int) : Int := if mkOk d h m then 0 else 5

/-! the number of a shift -/
def shOk (h : Int) : Bool := decide (h = 1 ∨ h = 2 ∨ h = 3 ∨ h = 4 ∨ h = 6 ∨ h = 8 ∨ h = 12 ∨ h = 24)
def shV (t h : Int) : Int := if isTm t then if shOk h then (t - 360) / (60 * h) else 0 else 0
def shE (t h : Int) : Int := if isTm t then if shOk h then 0 else 5 else 11

/-! the text of a time -/
def two (n : Int) : List UInt8 := if n < 10 then 48 :: Lib.itoa n else Lib.itoa n
def timeText (t : Int) : List UInt8 := Lib.itoa (t / 1440) ++ (47 :: two (t % 1440 / 60)) ++ (58 :: two (t % 60))

/-! a list around the first place of a byte -/
def cutAt (c : UInt8) : List UInt8 → List UInt8 × List UInt8 × Bool
  | [] => ([], [], false)
  | b :: r => if b = c then ([], r, true) else (b :: (cutAt c r).1, (cutAt c r).2.1, (cutAt c r).2.2)
theorem prefix_one (b c : UInt8) (r : List UInt8) : [c].isPrefixOf (b :: r) = (c == b) := by simp [List.isPrefixOf]
theorem cut_eq (c : UInt8) (l : List UInt8) : Lib.cut l [c] = cutAt c l := by
  induction l with
  | nil => rfl
  | cons b r ih =>
    unfold Lib.cut at ih ⊢
    rw [cutAt]
    have hge := Lib.index_ge r [c]
    by_cases h : b = c
    · subst h
      have e : Lib.index (b :: r) [b] = 0 := by unfold Lib.index; rw [prefix_one]; simp
      rw [e, if_pos (Int.le_refl _), if_pos rfl]; rfl
    · have e : Lib.index (b :: r) [c] = if Lib.index r [c] == -1 then -1 else Lib.index r [c] + 1 := by
        have hcb : (c == b) = false := by rw [beq_eq_false_iff_ne]; exact fun e => h e.symm
        rw [Lib.index, prefix_one, hcb]; rfl
      rw [if_neg h]
      by_cases hi : Lib.index r [c] = -1
      · rw [if_neg (by omega)] at ih
        rw [e, hi, ← ih, if_neg (by decide)]
      · rw [if_pos (by omega)] at ih
        have hb : (Lib.index r [c] == -1) = false := by rw [beq_eq_false_iff_ne]; exact hi
        obtain ⟨k, hk⟩ : ∃ k : Nat, Lib.index r [c] = k := ⟨(Lib.index r [c]).toNat, by omega⟩
        rw [hk] at ih hb
        rw [e, hk, hb, ← ih]
        rw [show ((if false = true then (-1 : Int) else (k : Int) + 1)) = ((k + 1 : Nat) : Int) from by simp]
        rw [if_pos (by omega)]
        simp [Nat.add_assoc]
theorem cutAt_hit (c : UInt8) (a r : List UInt8) (h : ∀ x ∈ a, x ≠ c) : cutAt c (a ++ c :: r) = (a, r, true) := by
  induction a with
  | nil => simp [cutAt]
  | cons b a ih =>
    have hb := h b (by simp)
    have := ih (fun x hx => h x (by simp [hx]))
    rw [List.cons_append, cutAt, if_neg hb, this]
theorem cutAt_spec (c : UInt8) (l : List UInt8) : ((cutAt c l).2.2 = true ∧ l = (cutAt c l).1 ++ c :: (cutAt c l).2.1) ∨ ((cutAt c l).2.2 = false ∧ cutAt c l = (l, [], false)) := by
  induction l with
  | nil => right; exact ⟨rfl, rfl⟩
  | cons b r ih =>
    rw [cutAt]
    by_cases h : b = c
    · left; rw [if_pos h]; exact ⟨rfl, by rw [h]; rfl⟩
    · rw [if_neg h]
      rcases ih with ⟨h1, h2⟩ | ⟨h1, h2⟩
      · left; exact ⟨h1, congrArg (b :: ·) h2⟩
      · right; rw [h2]; exact ⟨rfl, rfl⟩
theorem cutAt_length (c : UInt8) (l : List UInt8) : (cutAt c l).1.length ≤ l.length ∧ (cutAt c l).2.1.length ≤ l.length := by
  rcases cutAt_spec c l with ⟨_, h⟩ | ⟨_, h⟩
  · have := congrArg List.length h
    simp at this; omega
  · rw [h]; simp

/-! two digits -/
def rdB (b : List UInt8) : Bool := decide (b.length = 2) && numB (Lib.trimPrefix b [48]) 99
def rdV (b : List UInt8) : Int := if rdB b then (val (Lib.trimPrefix b [48]) : Int) else 0
def dg (x : UInt8) : Int := (x.toNat : Int) - 48
theorem isD_bd {x : UInt8} (h : isD x = true) : 48 ≤ x.toNat ∧ x.toNat ≤ 57 := by unfold isD at h; exact of_decide_eq_true h
theorem val1 (x : UInt8) : val [x] = x.toNat - 48 := by simp [val]
theorem val2 (x y : UInt8) : val [x, y] = (x.toNat - 48) * 10 + (y.toNat - 48) := by simp [val]
theorem trim0 (r : List UInt8) : Lib.trimPrefix (48 :: r) [48] = r := by simp [Lib.trimPrefix, Lib.hasPrefix, List.isPrefixOf]
theorem trim_no {x : UInt8} (h : x ≠ 48) (r : List UInt8) : Lib.trimPrefix (x :: r) [48] = x :: r := by
  have : ((48 : UInt8) == x) = false := by rw [beq_eq_false_iff_ne]; exact fun e => h e.symm
  simp [Lib.trimPrefix, Lib.hasPrefix, List.isPrefixOf, this]
theorem numB1 (y : UInt8) : numB [y] 99 = isD y := by
  by_cases h : isD y = true
  · rw [h]
    have := isD_bd h
    exact numB_yes (by simp) (by simp) (fun k hk => by simp at hk; subst hk; exact h) (by rw [val1]; omega)
  · rw [Bool.eq_false_iff.2 h]; exact numB_other 99 (k := 0) (by simp) (Bool.eq_false_iff.2 h)
theorem numB2 {x : UInt8} (hx : x ≠ 48) (y : UInt8) : numB [x, y] 99 = (isD x && isD y) := by
  by_cases h : isD x = true
  · by_cases h2 : isD y = true
    · rw [h, h2]
      have := isD_bd h
      have := isD_bd h2
      refine numB_yes (by simp) ?_ ?_ (by rw [val2]; omega)
      · rintro ⟨_, e⟩; exact hx (UInt8.toNat_inj.1 e)
      · intro k hk
        rcases k with _ | _ | k
        · exact h
        · exact h2
        · simp at hk; omega
    · rw [Bool.eq_false_iff.2 h2, Bool.and_false]; exact numB_other 99 (k := 1) (by simp) (Bool.eq_false_iff.2 h2)
  · rw [Bool.eq_false_iff.2 h, Bool.false_and]; exact numB_other 99 (k := 0) (by simp) (Bool.eq_false_iff.2 h)
theorem rdB_two (x y : UInt8) : rdB [x, y] = (isD x && isD y) := by
  unfold rdB
  rw [decide_eq_true (by rfl), Bool.true_and]
  by_cases h : x = 48
  · subst h; rw [trim0, numB1]; rfl
  · rw [trim_no h, numB2 h]
theorem rdV_two {x y : UInt8} (hx : isD x = true) (hy : isD y = true) : rdV [x, y] = 10 * dg x + dg y := by
  have := isD_bd hx
  have := isD_bd hy
  unfold rdV dg
  rw [rdB_two, hx, hy, Bool.and_self, if_pos rfl]
  by_cases h : x = 48
  · subst h; rw [trim0, val1]; simp; omega
  · rw [trim_no h, val2]; omega
theorem rdB_len {b : List UInt8} (h : rdB b = true) : ∃ x y, b = [x, y] ∧ isD x = true ∧ isD y = true := by
  have h2 : b.length = 2 := by unfold rdB at h; rw [Bool.and_eq_true] at h; exact of_decide_eq_true h.1
  match b, h2 with
  | [x, y], _ =>
  rw [rdB_two, Bool.and_eq_true] at h
  exact ⟨x, y, rfl, h.1, h.2⟩
theorem rd_bounds (b : List UInt8) : 0 ≤ rdV b ∧ rdV b ≤ 99 := by
  by_cases h : rdB b = true
  · obtain ⟨x, y, rfl, hx, hy⟩ := rdB_len h
    have := isD_bd hx
    have := isD_bd hy
    rw [rdV_two hx hy]; unfold dg; omega
  · unfold rdV; rw [if_neg h]; omega

/-! which time a text is -/
/-- l is the text of a time, and the time is v -/
def IsText (l : List UInt8) (v : Int) : Prop :=
  ∃ a x y z u, l = a ++ [47, x, y, 58, z, u] ∧ numB a 16777216 = true ∧ isD x = true ∧ isD y = true ∧ isD z = true ∧ isD u = true ∧
    mkOk (val a) (10 * dg x + dg y) (10 * dg z + dg u) = true ∧ v = 1440 * (val a : Int) + 60 * (10 * dg x + dg y) + (10 * dg z + dg u)
theorem numB_digits {l : List UInt8} {m : Int} (h : numB l m = true) : ∀ x ∈ l, isD x = true := by
  unfold numB at h; simp only [Bool.and_eq_true] at h
  exact List.all_eq_true.1 h.1.2
theorem numB_most {l : List UInt8} {m k : Int} (h : numB l m = true) (hv : (val l : Int) ≤ k) : numB l k = true := by
  unfold numB at h ⊢; simp only [Bool.and_eq_true] at h ⊢
  exact ⟨h.1, decide_eq_true hv⟩
theorem numB_val {l : List UInt8} {m : Int} (h : numB l m = true) : (val l : Int) ≤ m := by
  unfold numB at h; simp only [Bool.and_eq_true] at h; exact of_decide_eq_true h.2
theorem isD_not {x c : UInt8} (h : isD x = true) (hc : isD c = false) : x ≠ c := by rintro rfl; rw [h] at hc; cases hc

/-- what the program reads: around the first '/' and the first ':' -/
def pDay (l : List UInt8) : List UInt8 := (cutAt 47 l).1
def pHour (l : List UInt8) : List UInt8 := (cutAt 58 (cutAt 47 l).2.1).1
def pMin (l : List UInt8) : List UInt8 := (cutAt 58 (cutAt 47 l).2.1).2.1
def progB (l : List UInt8) : Bool := numB (pDay l) 11650 && rdB (pHour l) && rdB (pMin l) && mkOk (val (pDay l)) (rdV (pHour l)) (rdV (pMin l))
def progV (l : List UInt8) : Int := 1440 * (val (pDay l) : Int) + 60 * rdV (pHour l) + rdV (pMin l)
theorem prog_text {l : List UInt8} (h : progB l = true) : IsText l (progV l) := by
  unfold progB at h; simp only [Bool.and_eq_true] at h
  obtain ⟨⟨⟨h1, h2⟩, h3⟩, h4⟩ := h
  obtain ⟨x, y, ex, hx, hy⟩ := rdB_len h2
  obtain ⟨z, u, ez, hz, hu⟩ := rdB_len h3
  have hm : pMin l ≠ [] := by rw [ez]; simp
  rcases cutAt_spec 58 (cutAt 47 l).2.1 with ⟨_, g⟩ | ⟨_, g⟩
  · rcases cutAt_spec 47 l with ⟨_, f⟩ | ⟨_, f⟩
    · refine ⟨pDay l, x, y, z, u, ?_, numB_most h1 (by have := numB_val h1; omega), hx, hy, hz, hu, ?_, ?_⟩
      · refine f.trans ?_
        rw [g]
        show (cutAt 47 l).1 ++ 47 :: (pHour l ++ 58 :: pMin l) = _
        rw [ex, ez]; rfl
      · rw [← rdV_two hx hy, ← rdV_two hz hu, ← ex, ← ez]; exact h4
      · unfold progV; rw [ex, ez, rdV_two hx hy, rdV_two hz hu]
    · exfalso; apply hm; unfold pMin; rw [f]; rfl
  · exfalso; apply hm; unfold pMin; rw [g]
theorem text_prog {l : List UInt8} {v : Int} (h : IsText l v) : progB l = true ∧ progV l = v := by
  obtain ⟨a, x, y, z, u, rfl, ha, hx, hy, hz, hu, hm, rfl⟩ := h
  have e1 : cutAt 47 (a ++ [47, x, y, 58, z, u]) = (a, [x, y, 58, z, u], true) := cutAt_hit 47 a _ (fun w hw => isD_not (numB_digits ha w hw) (by decide))
  have e2 : cutAt 58 [x, y, 58, z, u] = ([x, y], [z, u], true) := cutAt_hit 58 [x, y] [z, u] (fun w hw => by
    simp at hw
    rcases hw with rfl | rfl
    · exact isD_not hx (by decide)
    · exact isD_not hy (by decide))
  have p1 : pDay (a ++ [47, x, y, 58, z, u]) = a := by unfold pDay; rw [e1]
  have p2 : pHour (a ++ [47, x, y, 58, z, u]) = [x, y] := by unfold pHour; rw [e1, e2]
  have p3 : pMin (a ++ [47, x, y, 58, z, u]) = [z, u] := by unfold pMin; rw [e1, e2]
  have hd : (val a : Int) ≤ 11650 := by
    unfold mkOk at hm
    have := of_decide_eq_true hm
    omega
  constructor
  · unfold progB; rw [p1, p2, p3, rdV_two hx hy, rdV_two hz hu, rdB_two, rdB_two, hx, hy, hz, hu, hm, numB_most ha hd]; rfl
  · unfold progV; rw [p1, p2, p3, rdV_two hx hy, rdV_two hz hu]
theorem progB_iff (l : List UInt8) : progB l = true ↔ ∃ v, IsText l v := ⟨fun h => ⟨_, prog_text h⟩, fun ⟨_, h⟩ => (text_prog h).1⟩

/-- what the reference reads: by the place from the end -/
def refB (a : List UInt8) (s x y c z u : UInt8) : Bool :=
  decide (s = 47) && decide (c = 58) && isD x && isD y && isD z && isD u && numB a 16777216 && mkOk (val a) (10 * dg x + dg y) (10 * dg z + dg u)
theorem ref_prog (a : List UInt8) (s x y c z u : UInt8) : refB a s x y c z u = progB (a ++ [s, x, y, c, z, u]) := by
  by_cases h : refB a s x y c z u = true
  · rw [h]; symm
    unfold refB at h; simp only [Bool.and_eq_true, decide_eq_true_eq] at h
    obtain ⟨⟨⟨⟨⟨⟨⟨rfl, rfl⟩, h1⟩, h2⟩, h3⟩, h4⟩, h5⟩, h6⟩ := h
    exact (text_prog ⟨a, x, y, z, u, rfl, h5, h1, h2, h3, h4, h6, rfl⟩).1
  · rw [Bool.eq_false_iff.2 h]; symm
    rw [Bool.eq_false_iff]
    intro hp
    obtain ⟨v, b, x', y', z', u', e, h5, h1, h2, h3, h4, h6, _⟩ := (progB_iff _).1 hp
    obtain ⟨rfl, e2⟩ := List.append_inj' e (by simp)
    simp at e2
    obtain ⟨rfl, rfl, rfl, rfl, rfl, rfl⟩ := e2
    apply h
    unfold refB; simp [h1, h2, h3, h4, h5, h6]
theorem ref_val {a : List UInt8} {s x y c z u : UInt8} (h : refB a s x y c z u = true) : progV (a ++ [s, x, y, c, z, u]) = 1440 * (val a : Int) + 60 * (10 * dg x + dg y) + (10 * dg z + dg u) := by
  unfold refB at h; simp only [Bool.and_eq_true, decide_eq_true_eq] at h
  obtain ⟨⟨⟨⟨⟨⟨⟨rfl, rfl⟩, h1⟩, h2⟩, h3⟩, h4⟩, h5⟩, h6⟩ := h
  exact (text_prog ⟨a, x, y, z, u, rfl, h5, h1, h2, h3, h4, h6, rfl⟩).2
theorem prog_short {l : List UInt8} (h : l.length < 7) : progB l = false := by
  rw [Bool.eq_false_iff]
  intro hp
  obtain ⟨v, a, x, y, z, u, rfl, h5, _⟩ := (progB_iff _).1 hp
  have : a = [] := List.eq_nil_of_length_eq_zero (by simp at h; omega)
  subst this; cases h5
/-- a list of seven or more, its last six apart -/
theorem last6 {l : List UInt8} (h : 6 ≤ l.length) : ∃ a s x y c z u, l = a ++ [s, x, y, c, z, u] ∧ a.length = l.length - 6 := by
  have e : l = l.take (l.length - 6) ++ l.drop (l.length - 6) := (List.take_append_drop _ _).symm
  have hd : (l.drop (l.length - 6)).length = 6 := by simp; omega
  generalize l.drop (l.length - 6) = r at e hd
  match r, hd with
  | [s, x, y, c, z, u], _ => exact ⟨_, s, x, y, c, z, u, e, by simp⟩

/-- the time and the error that Parse gives -/
def paV (l : List UInt8) : Int := if progB l then progV l else 0
def paE (l : List UInt8) : Int := if progB l then 0 else 2

/-! the text of a time is read as this time -/
theorem itoa_small {n : Int} (h0 : 0 ≤ n) (h : n < 10) : Lib.itoa n = [UInt8.ofNat (48 + n.toNat)] := by
  unfold Lib.itoa; rw [if_neg (by omega), Lib.decDigits, dif_pos (by omega)]
theorem itoa_two {n : Int} (h0 : 10 ≤ n) (h : n < 100) : Lib.itoa n = [UInt8.ofNat (48 + n.toNat / 10), UInt8.ofNat (48 + n.toNat % 10)] := by
  unfold Lib.itoa; rw [if_neg (by omega), Lib.decDigits, dif_neg (by omega), Lib.decDigits, dif_pos (by omega)]; rfl
theorem two_digits {n : Int} (h0 : 0 ≤ n) (h : n < 100) : ∃ x y, two n = [x, y] ∧ isD x = true ∧ isD y = true ∧ 10 * dg x + dg y = n := by
  unfold two
  by_cases h1 : n < 10
  · rw [if_pos h1, itoa_small h0 h1]
    refine ⟨48, _, rfl, by decide, isD_ofNat (by omega), ?_⟩
    unfold dg; rw [ofNat_toNat (by omega)]; simp; omega
  · rw [if_neg h1, itoa_two (by omega) h]
    refine ⟨_, _, rfl, isD_ofNat (by omega), isD_ofNat (by omega), ?_⟩
    unfold dg; rw [ofNat_toNat (by omega), ofNat_toNat (by omega)]; omega
theorem timeText_is {t : Int} (h : isTm t = true) : IsText (timeText t) t := by
  unfold isTm at h
  have ht := of_decide_eq_true h
  obtain ⟨x, y, e1, hx, hy, v1⟩ := two_digits (n := t % 1440 / 60) (by omega) (by omega)
  obtain ⟨z, u, e2, hz, hu, v2⟩ := two_digits (n := t % 60) (by omega) (by omega)
  have hv : (val (Lib.itoa (t / 1440)) : Int) = t / 1440 := val_itoa (by omega)
  refine ⟨Lib.itoa (t / 1440), x, y, z, u, ?_, ?_, hx, hy, hz, hu, ?_, ?_⟩
  · unfold timeText; rw [e1, e2]; simp
  · rw [numB_itoa, decide_eq_true (by omega), decide_eq_true (by omega)]; rfl
  · unfold mkOk; rw [v1, v2, hv]; exact decide_eq_true (by omega)
  · rw [v1, v2, hv]; omega
theorem parse_text {t : Int} (h : isTm t = true) : paV (timeText t) = t ∧ paE (timeText t) = 0 := by
  have := text_prog (timeText_is h)
  unfold paV paE; rw [this.1, this.2]; exact ⟨rfl, rfl⟩
theorem timeText_length {t : Int} (h : isTm t = true) : 7 ≤ (timeText t).length ∧ (timeText t).length ≤ 40 := by
  unfold isTm at h
  have ht := of_decide_eq_true h
  obtain ⟨x, y, e1, _⟩ := two_digits (n := t % 1440 / 60) (by omega) (by omega)
  obtain ⟨z, u, e2, _⟩ := two_digits (n := t % 60) (by omega) (by omega)
  have h1 := itoa_length_pos (t / 1440)
  have h2 := itoa_length (t / 1440) (by omega) (by omega)
  unfold timeText; rw [e1, e2]; simp; omega
theorem pa_bounds (l : List UInt8) : 0 ≤ paV l ∧ paV l ≤ 16777216 := by
  unfold paV
  by_cases h : progB l = true
  · rw [if_pos h]
    unfold progB at h; simp only [Bool.and_eq_true] at h
    have hm := h.2
    unfold mkOk at hm
    have := of_decide_eq_true hm
    unfold progV; omega
  · rw [if_neg h]; omega
end Go.Proofs.YthdjpmiohfaphaaGreatDoor.cal
