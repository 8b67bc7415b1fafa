/- Plain facts on registers as text: what Print writes, what Parse makes of lines in any order, that what was printed is read as it was. No program in this text. -/
import Derived.Test.YthdjpmiohfaphaaGreatDoorRgM
namespace Go.Proofs.YthdjpmiohfaphaaGreatDoor.reg
open lex strs net cal

def wPerson : List UInt8 := [112, 101, 114, 115, 111, 110]
def wCom : List UInt8 := [99, 111, 109, 112, 97, 110, 121]
def wSk : List UInt8 := [115, 107, 105, 108, 108, 115]
def wFrom : List UInt8 := [102, 114, 111, 109]
def wUntil : List UInt8 := [117, 110, 116, 105, 108]
def lim : Int := 1073741824
def bit (k i : Nat) (c : UInt8) : List UInt8 := if k / 2 ^ i % 2 = 1 then [c] else []
def lets (k : Nat) : List UInt8 := bit k 0 115 ++ bit k 1 101 ++ bit k 2 105 ++ bit k 3 104 ++ bit k 4 116
/-- the letters of skills -/
def letters (k : Nat) : List UInt8 := if lets k = [] then [45] else lets k
/-- which skills a word says; 32: none -/
def skN (w : List UInt8) : Nat := fi (fun k => decide (letters k = w)) 32
set_option maxRecDepth 10000 in
theorem letters_apart : ∀ k, k < 32 → ∀ j, j < k → letters j ≠ letters k := by decide
theorem skN_letters {k : Nat} (h : k < 32) : skN (letters k) = k := fi_hit h (decide_eq_true rfl) (fun j hj => decide_eq_false (letters_apart k h j hj))
theorem skN_le (w : List UInt8) : skN w ≤ 32 := by
  by_cases h : ∃ i, i < 32 ∧ (fun k => decide (letters k = w)) i = true
  · exact Nat.le_of_lt (least h).1
  · have : skN w = 32 := fi_no (fun i hi => by
      cases e : decide (letters i = w) with
      | false => rfl
      | true => exact absurd ⟨i, hi, e⟩ h)
    omega
theorem skN_lt {w : List UInt8} (h : skN w < 32) : letters (skN w) = w := by
  have hx : ∃ i, i < 32 ∧ (fun k => decide (letters k = w)) i = true := by
    by_cases hx : ∃ i, i < 32 ∧ (fun k => decide (letters k = w)) i = true
    · exact hx
    · have : skN w = 32 := fi_no (fun i hi => by
        cases e : decide (letters i = w) with
        | false => rfl
        | true => exact absurd ⟨i, hi, e⟩ hx)
      omega
  exact of_decide_eq_true (least hx).2.1
/-- the words of a person's line -/
def pnW (p : Pn) : List (List UInt8) := [wPerson, p.nm.data.toList, wCom, Lib.itoa p.co, wSk, letters p.sk.toNat, wFrom, timeText p.fr, wUntil, timeText p.un]
def printP (ps : List Pn) : List UInt8 := textOf ((ps.map pnW).map fun ws => Lib.join ws [32])
def prP (ps : List Pn) : List UInt8 := if chkP ps = 0 then printP ps else []
def at_ (ws : List (List UInt8)) (i : Nat) : List UInt8 := ws.getD i []
def skipB (ws : List (List UInt8)) : Bool := ws.isEmpty || ((at_ ws 0).head? == some 35)
/-- whether words are a person's line -/
def perB (ws : List (List UInt8)) : Bool :=
  decide (ws.length = 10) && decide (at_ ws 0 = wPerson) && decide (at_ ws 2 = wCom) && decide (at_ ws 4 = wSk) && decide (at_ ws 6 = wFrom) && decide (at_ ws 8 = wUntil) && numB (at_ ws 3) lim && decide (skN (at_ ws 5) < 32) && progB (at_ ws 7) && progB (at_ ws 9)
def perV (ws : List (List UInt8)) : Pn := ⟨bs (at_ ws 1), numV (at_ ws 3) lim, (skN (at_ ws 5) : Int), paV (at_ ws 7), paV (at_ ws 9)⟩
/-- line by line: the register, the number of the wrong line, the error -/
def runP : Nat → List Pn → List (List (List UInt8)) → List Pn × Nat × Int
  | _, st, [] => (st, 0, 0)
  | i, st, ws :: r => if skipB ws = true then runP (i + 1) st r else if perB ws = true then (if (addP st (perV ws)).2 = 0 then runP (i + 1) (addP st (perV ws)).1 r else ([], i + 1, (addP st (perV ws)).2)) else ([], i + 1, 2)
def parseP (s : List UInt8) : List Pn × Nat × Int :=
  match lines s with
  | none => ([], 0, 2)
  | some L => runP 0 [] (L.map words)

theorem pn_words {p : Pn} (h : pnE p = 0) : perB (pnW p) = true ∧ perV (pnW p) = p := by
  obtain ⟨-, ⟨⟨c0, c1⟩, s0, s1⟩, f0, f1, u1⟩ := pnE_zero.1 h
  have n1 : numB (Lib.itoa p.co) lim = true := by rw [numB_itoa, decide_eq_true c0, decide_eq_true (show p.co ≤ lim by unfold lim; omega)]; rfl
  have n2 : numV (Lib.itoa p.co) lim = p.co := by rw [numV_itoa, if_pos ⟨c0, by unfold lim; omega⟩]
  have t1 : isTm p.fr = true := decide_eq_true (by omega)
  have t2 : isTm p.un = true := decide_eq_true (by omega)
  have k := skN_letters (k := p.sk.toNat) (by omega)
  have pr : ∀ t, isTm t = true → progB (timeText t) = true := fun t ht => (progB_iff _).2 ⟨t, timeText_is ht⟩
  constructor
  · unfold perB pnW at_
    simp only [List.getD_cons_zero, List.getD_cons_succ, n1, pr _ t1, pr _ t2, k, Bool.and_true, Bool.and_eq_true, decide_eq_true_eq]
    refine ⟨⟨⟨⟨⟨⟨rfl, trivial⟩, trivial⟩, trivial⟩, trivial⟩, trivial⟩, by omega⟩
  · unfold perV pnW at_
    simp only [List.getD_cons_zero, List.getD_cons_succ, n2, k, (parse_text t1).1, (parse_text t2).1, bs_of]
    cases p
    simp only [Pn.mk.injEq, true_and, and_true]
    simp only at s0
    omega
theorem pn_skip (p : Pn) : skipB (pnW p) = false := rfl
/-- lines of valid people with names of their own, in any order: all are in -/
theorem run_people : ∀ (qs : List Pn) (i : Nat) (st : List Pn), Ok st → (∀ q ∈ qs, pnE q = 0) → (∀ q ∈ qs, ∀ x ∈ st, x.nm ≠ q.nm) → qs.Pairwise (fun a b => a.nm ≠ b.nm) → st.length + qs.length ≤ 64 →
    ∃ st', runP i st (qs.map pnW) = (st', 0, 0) ∧ Ok st' ∧ ∀ z, z ∈ st' ↔ z ∈ st ∨ z ∈ qs
  | [], i, st, h, _, _, _, _ => ⟨st, rfl, h, fun z => by simp⟩
  | q :: r, i, st, h, hv, hn, hp, hl => by
    rw [List.length_cons] at hl
    obtain ⟨w1, w2⟩ := pn_words (hv q (by simp))
    have hf := fnd_free (fun x hx => hn q (by simp) x hx)
    have ha := addP_is h (hv q (by simp)) hf (by omega)
    have hok := h.ins (hv q (by simp)) hf (by omega)
    obtain ⟨st', e, h', hm⟩ := run_people r (i + 1) (reg.ins q st) hok (fun x hx => hv x (List.mem_cons_of_mem _ hx)) (fun x hx y hy => by
      rcases mem_ins.1 hy with rfl | hy
      · exact List.rel_of_pairwise_cons hp hx
      · exact hn x (List.mem_cons_of_mem _ hx) y hy) (List.Pairwise.of_cons hp) (by rw [length_ins]; omega)
    refine ⟨st', ?_, h', fun z => ?_⟩
    · rw [List.map_cons, runP, if_neg (by rw [pn_skip]; simp), if_pos w1, w2, ha]
      simp only [if_true]
      exact e
    · rw [hm z, mem_ins, List.mem_cons]
      constructor
      · rintro ((h | h) | h)
        · exact .inr (.inl h)
        · exact .inl h
        · exact .inr (.inr h)
      · rintro (h | h | h)
        · exact .inl (.inr h)
        · exact .inl (.inl h)
        · exact .inr h

/-! the text is made of lines and words that are read as they were -/
def Wd (x : List UInt8) : Prop := x ≠ [] ∧ (∀ c ∈ x, 33 ≤ c.toNat ∧ c.toNat ≤ 126) ∧ x.length ≤ 40
theorem Wd.good {x : List UInt8} (h : Wd x) : lex.Good x := ⟨h.1, fun c hc e => by have := h.2.1 c hc; subst e; exact absurd this.1 (by decide)⟩
theorem isN_wd {c : UInt8} (h : isN c = true) : 33 ≤ c.toNat ∧ c.toNat ≤ 126 := by
  unfold isN isL isD at h
  simp only [Bool.or_eq_true, decide_eq_true_eq] at h
  omega
theorem name_wd {l : List UInt8} (h : nameB l = true) : Wd l := by
  unfold nameB at h
  simp only [Bool.and_eq_true, decide_eq_true_eq, Bool.not_eq_true', List.isEmpty_eq_false_iff] at h
  obtain ⟨⟨⟨h1, h2⟩, -⟩, h4⟩ := h
  exact ⟨h1, fun c hc => isN_wd (List.all_eq_true.1 h4 c hc), by omega⟩
theorem itoa_digits {n : Int} (h0 : 0 ≤ n) : ∀ c ∈ Lib.itoa n, isD c = true := fun c hc => by
  have e : Lib.itoa n = Lib.decDigits n.toNat := by
    obtain ⟨k, rfl⟩ : ∃ k : Nat, n = k := ⟨n.toNat, by omega⟩
    simp [Lib.itoa]
  rw [e] at hc
  exact List.all_eq_true.1 (dec_all n.toNat) c hc
theorem isD_wd {c : UInt8} (h : isD c = true) : 33 ≤ c.toNat ∧ c.toNat ≤ 126 := by have := isD_bd h; omega
theorem itoa_wd {n : Int} (h0 : 0 ≤ n) (h1 : n ≤ 9223372036854775807) : Wd (Lib.itoa n) := by
  have hl := itoa_length_pos n
  exact ⟨fun e => by rw [e] at hl; exact absurd hl (by decide), fun c hc => isD_wd (itoa_digits h0 c hc), Nat.le_trans (itoa_length n (by omega) h1) (by decide)⟩
theorem time_wd {t : Int} (h : isTm t = true) : Wd (timeText t) := by
  have hl := timeText_length h
  have ht := of_decide_eq_true h
  obtain ⟨x, y, e1, d1, d2, -⟩ := two_digits (n := t % 1440 / 60) (by omega) (by omega)
  obtain ⟨z, u, e2, d3, d4, -⟩ := two_digits (n := t % 60) (by omega) (by omega)
  refine ⟨fun e => by rw [e] at hl; exact absurd hl.1 (by decide), fun c hc => ?_, hl.2⟩
  unfold timeText at hc
  rw [e1, e2] at hc
  simp only [List.mem_append, List.mem_cons, List.not_mem_nil, or_false] at hc
  rcases hc with (hc | rfl | rfl | rfl) | rfl | rfl | rfl
  · exact isD_wd (itoa_digits (by omega) c hc)
  · decide
  · exact isD_wd d1
  · exact isD_wd d2
  · decide
  · exact isD_wd d3
  · exact isD_wd d4
instance (x : List UInt8) : Decidable (Wd x) := by unfold Wd; infer_instance
set_option maxRecDepth 10000 in
theorem letters_wd : ∀ k, k < 32 → Wd (letters k) := by decide
theorem mem_inter (s : List UInt8) : ∀ (xs : List (List UInt8)) (l : List UInt8), l ∈ List.intersperse s xs → l = s ∨ l ∈ xs
  | [], l, h => by simp at h
  | [x], l, h => by simp at h; exact .inr (by simp [h])
  | x :: y :: r, l, h => by
    rw [show List.intersperse s (x :: y :: r) = x :: s :: List.intersperse s (y :: r) from rfl] at h
    rcases List.mem_cons.1 h with h | h
    · exact .inr (by simp [h])
    · rcases List.mem_cons.1 h with h | h
      · exact .inl h
      · rcases mem_inter s (y :: r) l h with h | h
        · exact .inl h
        · exact .inr (List.mem_cons_of_mem _ h)
theorem join_plain {ws : List (List UInt8)} (h : ∀ x ∈ ws, Wd x) : Plain (Lib.join ws [32]) := by
  intro c hc
  have hc : c ∈ (List.intersperse [32] ws).flatten := hc
  obtain ⟨l, hl, hcl⟩ := List.mem_flatten.1 hc
  rcases mem_inter _ _ _ hl with rfl | hl
  · rw [List.mem_singleton.1 hcl]; rfl
  · have := (h l hl).2.1 c hcl
    unfold isT; exact decide_eq_true (by omega)
theorem wsum_le {ws : List (List UInt8)} (h : ∀ x ∈ ws, Wd x) : wsum ws ≤ 41 * ws.length := by
  induction ws with
  | nil => exact Nat.le_refl _
  | cons x r ih =>
    have := ih (fun y hy => h y (List.mem_cons_of_mem _ hy))
    have := (h x List.mem_cons_self).2.2
    rw [wsum_cons, List.length_cons]; omega
theorem pn_wd {p : Pn} (h : pnE p = 0) : ∀ x ∈ pnW p, Wd x := by
  obtain ⟨n0, ⟨⟨c0, c1⟩, s0, s1⟩, f0, f1, u1⟩ := pnE_zero.1 h
  intro x hx
  simp only [pnW, List.mem_cons, List.not_mem_nil, or_false] at hx
  rcases hx with rfl | rfl | rfl | rfl | rfl | rfl | rfl | rfl | rfl | rfl
  · decide
  · exact name_wd n0
  · decide
  · exact itoa_wd c0 (by omega)
  · decide
  · exact letters_wd _ (by omega)
  · decide
  · exact time_wd (decide_eq_true (by omega))
  · decide
  · exact time_wd (decide_eq_true (by omega))
theorem pn_line {p : Pn} (h : pnE p = 0) : (Lib.join (pnW p) [32]).length ≤ 410 := by
  have h1 := join_length (pnW p)
  have h2 := wsum_le (pn_wd h)
  have h3 : (pnW p).length = 10 := rfl
  omega
theorem text_len {qs : List Pn} (h : ∀ q ∈ qs, pnE q = 0) : (printP qs).length ≤ 411 * qs.length := by
  induction qs with
  | nil => exact Nat.le_refl _
  | cons q r ih =>
    have h1 := ih (fun y hy => h y (List.mem_cons_of_mem _ hy))
    have h2 := pn_line (h q List.mem_cons_self)
    unfold printP at h1 ⊢
    rw [List.map_cons, List.map_cons, textOf_cons, List.length_append, List.length_cons, List.length_cons]; omega
theorem text_lines {qs : List Pn} (h : ∀ q ∈ qs, pnE q = 0) (hl : qs.length ≤ 64) : ∃ L, lines (printP qs) = some L ∧ L.map words = qs.map pnW := by
  refine ⟨(qs.map pnW).map fun ws => Lib.join ws [32], lines_text _ (fun x hx => ?_) (by have := text_len h; unfold printP at this; omega), ?_⟩
  · rw [List.map_map] at hx
    obtain ⟨q, hq, rfl⟩ := List.mem_map.1 hx
    exact join_plain (pn_wd (h q hq))
  · rw [List.map_map]
    have : ∀ ws ∈ qs.map pnW, (words ∘ fun ws => Lib.join ws [32]) ws = id ws := fun ws hw => by
      obtain ⟨q, hq, rfl⟩ := List.mem_map.1 hw
      exact words_join (pnW q) (fun x hx => Wd.good (pn_wd (h q hq) x hx))
    rw [List.map_congr_left this, List.map_id]
theorem ok_nil : Ok [] := ⟨by decide, (fun p h => by cases h), List.Pairwise.nil⟩
/-- the lines of a register, in any order, are read as that register -/
theorem parse_any {ps qs : List Pn} (h : Ok ps) (hm : ∀ z, z ∈ qs ↔ z ∈ ps) (hp : qs.Pairwise (fun a b => a.nm ≠ b.nm)) (hl : qs.length ≤ 64) : parseP (printP qs) = (ps, 0, 0) := by
  have hv : ∀ q ∈ qs, pnE q = 0 := fun q hq => h.all q ((hm q).1 hq)
  obtain ⟨L, h1, h2⟩ := text_lines hv hl
  obtain ⟨st', e, h3, h4⟩ := run_people qs 0 [] ok_nil hv (fun q _ x hx => by cases hx) hp (by simpa using hl)
  unfold parseP
  rw [h1]
  simp only
  rw [h2, e]
  congr 1
  exact up_ext h3.up h.up (fun z => by rw [h4 z, hm z]; simp)
theorem up_names {ps : List Pn} (h : Up ps) : ps.Pairwise (fun a b => a.nm ≠ b.nm) := List.Pairwise.imp (fun h => lt_ne h) h
/-- PARSE OF PRINT IS THE REGISTER -/
theorem parse_print {ps : List Pn} (h : Ok ps) : parseP (printP ps) = (ps, 0, 0) := parse_any h (fun _ => Iff.rfl) (up_names h.up) h.len
theorem parse_back {ps : List Pn} (h : Ok ps) : parseP (printP ps.reverse) = (ps, 0, 0) :=
  parse_any h (fun z => List.mem_reverse) (List.pairwise_reverse.2 (List.Pairwise.imp (fun h => Ne.symm h) (up_names h.up))) (by rw [List.length_reverse]; exact h.len)
theorem printP_cons (p : Pn) (ps : List Pn) : printP (p :: ps) = printP [p] ++ printP ps := by
  unfold printP
  rw [List.map_cons, List.map_cons, List.map_cons, List.map_nil, List.map_cons, List.map_nil, textOf_cons, textOf_cons, textOf_nil]
  simp
theorem printP_append (ps qs : List Pn) : printP (ps ++ qs) = printP ps ++ printP qs := by
  induction ps with
  | nil => rfl
  | cons p r ih => rw [List.cons_append, printP_cons, ih, printP_cons p r, List.append_assoc]
/-- what is read without an error is valid -/
theorem run_ok : ∀ (W : List (List (List UInt8))) (i : Nat) (st : List Pn), Ok st → Ok (runP i st W).1 ∧ ((runP i st W).2.2 ≠ 0 → (runP i st W).1 = [])
  | [], _, _, h => ⟨h, fun e => absurd rfl e⟩
  | ws :: r, i, st, h => by
    rw [runP]
    by_cases h1 : skipB ws = true
    · rw [if_pos h1]; exact run_ok r (i + 1) st h
    · rw [if_neg h1]
      by_cases h2 : perB ws = true
      · rw [if_pos h2]
        by_cases h3 : (addP st (perV ws)).2 = 0
        · rw [if_pos h3]
          obtain ⟨-, -, -, -, e, hok⟩ := addP_ok h3
          exact run_ok r (i + 1) _ (by rw [e]; exact hok)
        · rw [if_neg h3]; exact ⟨ok_nil, fun _ => rfl⟩
      · rw [if_neg h2]; exact ⟨ok_nil, fun _ => rfl⟩
end Go.Proofs.YthdjpmiohfaphaaGreatDoor.reg
