/- The plain facts on bytes, digits and numbers that the proofs of layer 1 use: what a byte's class is, what number a list of digits is. No program in this text. -/
import Derived.Lib.ItoaNum
import Derived.Lib.Strings
namespace Go.Proofs.YthdjpmiohfaphaaGreatDoor.lex

/-- the class of a byte, as the table has it -/
def clsI (i : Nat) : Int :=
  if i = 10 then 1 else if i = 32 then 2 else if i = 95 then 6
  else if 48 ≤ i ∧ i ≤ 57 then 4 else if (65 ≤ i ∧ i ≤ 90) ∨ (97 ≤ i ∧ i ≤ 122) then 5
  else if 33 ≤ i ∧ i ≤ 126 then 3 else 0

def isD (c : UInt8) : Bool := decide (48 ≤ c.toNat ∧ c.toNat ≤ 57)
def isL (c : UInt8) : Bool := decide ((65 ≤ c.toNat ∧ c.toNat ≤ 90) ∨ (97 ≤ c.toNat ∧ c.toNat ≤ 122))

theorem cls_digit {c : UInt8} (h : isD c = true) : clsI c.toNat = 4 := by
  unfold isD at h; have := of_decide_eq_true h; unfold clsI
  rw [if_neg (by omega), if_neg (by omega), if_neg (by omega), if_pos (by omega)]
theorem cls_not_digit {c : UInt8} (h : isD c = false) : clsI c.toNat ≠ 4 := by
  unfold isD at h; have := of_decide_eq_false h; unfold clsI
  repeat' split
  all_goals omega

/-- the number that a list of digits is -/
def val (l : List UInt8) : Nat := l.foldl (fun a c => a * 10 + (c.toNat - 48)) 0
theorem val_snoc (l : List UInt8) (c : UInt8) : val (l ++ [c]) = val l * 10 + (c.toNat - 48) := by simp [val]
theorem foldl_le (l : List UInt8) (a : Nat) : a ≤ l.foldl (fun a c => a * 10 + (c.toNat - 48)) a := by
  induction l generalizing a with
  | nil => simp
  | cons x l ih => simp only [List.foldl_cons]; have := ih (a * 10 + (x.toNat - 48)); omega
theorem val_le (l r : List UInt8) : val l ≤ val (l ++ r) := by
  unfold val; rw [List.foldl_append]; exact foldl_le _ _
theorem val_take_le (l : List UInt8) (k : Nat) : val (l.take k) ≤ val l := by
  have := val_le (l.take k) (l.drop k); rwa [List.take_append_drop] at this
theorem take_snoc (l : List UInt8) (k : Nat) (h : k < l.length) : l.take (k + 1) = l.take k ++ [l[k]] := by
  rw [List.take_succ_eq_append_getElem h]

/-- is a list of bytes the numeral of a number that is at most most? -/
def numB (l : List UInt8) (most : Int) : Bool :=
  !l.isEmpty && !(decide (1 < l.length) && decide (l[0]? = some 48)) && l.all isD && decide ((val l : Int) ≤ most)
def numV (l : List UInt8) (most : Int) : Int := if numB l most then (val l : Int) else 0

theorem numB_empty {l : List UInt8} (most : Int) (h : l.length = 0) : numB l most = false := by
  have : l = [] := List.eq_nil_of_length_eq_zero h
  subst this; rfl
theorem numB_zero {l : List UInt8} (most : Int) (h : 1 < l.length) (h0 : l[0].toNat = 48) : numB l most = false := by
  have e : l[0]? = some 48 := by rw [List.getElem?_eq_getElem (by omega)]; exact congrArg some (UInt8.toNat_inj.1 h0)
  unfold numB; simp [h, e]
theorem numB_other {l : List UInt8} (most : Int) {k : Nat} (h : k < l.length) (hd : isD l[k] = false) : numB l most = false := by
  have : l.all isD = false := by
    rw [List.all_eq_false]; exact ⟨l[k], List.getElem_mem h, by simp [hd]⟩
  unfold numB; simp [this]
theorem numB_great {l : List UInt8} (most : Int) {k : Nat} (h : most < (val (l.take k) : Int)) : numB l most = false := by
  have := val_take_le l k
  have : decide ((val l : Int) ≤ most) = false := by simp; omega
  unfold numB; simp [this]
theorem numB_yes {l : List UInt8} {most : Int} (h : 0 < l.length) (h0 : ¬ (1 < l.length ∧ l[0].toNat = 48)) (hd : ∀ k (hk : k < l.length), isD l[k] = true) (hv : (val l : Int) ≤ most) : numB l most = true := by
  have e1 : l.isEmpty = false := by
    cases l with
    | nil => exact absurd h (Nat.lt_irrefl 0)
    | cons x r => rfl
  have e2 : (decide (1 < l.length) && decide (l[0]? = some 48)) = false := by
    rw [Bool.and_eq_false_iff]
    by_cases hl : 1 < l.length
    · right
      rw [decide_eq_false_iff_not]
      intro e; rw [List.getElem?_eq_getElem (by omega), Option.some.injEq] at e
      exact h0 ⟨hl, by rw [e]; rfl⟩
    · left; simp [hl]
  have e3 : l.all isD = true := by
    rw [List.all_eq_true]; intro x hx
    obtain ⟨k, hk, rfl⟩ := List.mem_iff_getElem.1 hx
    exact hd k hk
  unfold numB; simp [e1, e2, e3, hv]
theorem numV_no {l : List UInt8} {most : Int} (h : numB l most = false) : numV l most = 0 := by unfold numV; simp [h]
theorem numV_yes {l : List UInt8} {most : Int} (h : numB l most = true) : numV l most = (val l : Int) := by unfold numV; simp [h]

/-! the decimal digits of a number -/
theorem ofNat_toNat {d : Nat} (h : d < 10) : (UInt8.ofNat (48 + d)).toNat = 48 + d := by
  simp; omega
theorem isD_ofNat {d : Nat} (h : d < 10) : isD (UInt8.ofNat (48 + d)) = true := by
  unfold isD; rw [ofNat_toNat h]; simp; omega
theorem dec_all (u : Nat) : (Lib.decDigits u).all isD = true := by
  induction u using Nat.strongRecOn with
  | _ u ih =>
    rw [Lib.decDigits]
    split
    · rw [List.all_cons, isD_ofNat ‹_›]; rfl
    · rw [List.all_append, ih (u / 10) (by omega), List.all_cons, isD_ofNat (d := u % 10) (by omega)]; rfl
theorem dec_val (u : Nat) : val (Lib.decDigits u) = u := by
  induction u using Nat.strongRecOn with
  | _ u ih =>
    rw [Lib.decDigits]
    split
    · rename_i h; have := ofNat_toNat h; unfold val; simp only [List.foldl_cons, List.foldl_nil]; omega
    · rw [val_snoc, ih (u / 10) (by omega), ofNat_toNat (by omega)]; omega
theorem dec_length (u : Nat) : 1 ≤ (Lib.decDigits u).length := by rw [Lib.decDigits_length]; exact Lib.nDigits_pos u
/-- the first digit of a number that is not zero -/
theorem dec_head (u : Nat) (h : 1 ≤ u) : ∀ (h0 : 0 < (Lib.decDigits u).length), 49 ≤ (Lib.decDigits u)[0].toNat := by
  induction u using Nat.strongRecOn with
  | _ u ih =>
    by_cases hu : u < 10
    · intro h0
      have e : Lib.decDigits u = [UInt8.ofNat (48 + u)] := by rw [Lib.decDigits, dif_pos hu]
      simp only [e, List.getElem_cons_zero]; rw [ofNat_toNat hu]; omega
    · intro h0
      have e : Lib.decDigits u = Lib.decDigits (u / 10) ++ [UInt8.ofNat (48 + u % 10)] := by rw [Lib.decDigits, dif_neg hu]
      have := dec_length (u / 10)
      simp only [e]
      rw [List.getElem_append_left (by omega)]
      exact ih (u / 10) (by omega) (by omega) _
theorem numB_dec (u : Nat) (most : Int) : numB (Lib.decDigits u) most = decide ((u : Int) ≤ most) := by
  have hl := dec_length u
  by_cases hm : (u : Int) ≤ most
  · rw [decide_eq_true hm]
    refine numB_yes (by omega) ?_ (fun k hk => List.all_eq_true.1 (dec_all u) _ (List.getElem_mem hk)) (by rw [dec_val]; exact hm)
    rintro ⟨h1, h2⟩
    by_cases hu : u < 10
    · rw [Lib.decDigits, dif_pos hu] at h1; simp at h1
    · have := dec_head u (by omega) (by omega); omega
  · rw [decide_eq_false hm]
    refine numB_great most (k := (Lib.decDigits u).length) ?_
    rw [List.take_length, dec_val]; omega

/-! names -/
def isN (c : UInt8) : Bool := isL c || isD c || decide (c.toNat = 95)
def nameB (l : List UInt8) : Bool := !l.isEmpty && decide (l.length ≤ 12) && (l[0]?.any isL) && l.all isN
theorem cls_letter {c : UInt8} (h : isL c = true) : clsI c.toNat = 5 := by
  unfold isL at h; have := of_decide_eq_true h; unfold clsI
  rw [if_neg (by omega), if_neg (by omega), if_neg (by omega), if_neg (by omega), if_pos (by omega)]
theorem cls_not_letter {c : UInt8} (h : isL c = false) : clsI c.toNat ≠ 5 := by
  unfold isL at h; have := of_decide_eq_false h; unfold clsI
  repeat' split
  all_goals omega
theorem cls_name {c : UInt8} (h : isN c = true) : 4 ≤ clsI c.toNat := by
  unfold isN isL isD at h; simp only [Bool.or_eq_true, decide_eq_true_eq] at h; unfold clsI
  repeat' split
  all_goals omega
theorem cls_not_name {c : UInt8} (h : isN c = false) : clsI c.toNat < 4 := by
  unfold isN isL isD at h; simp only [Bool.or_eq_false_iff, decide_eq_false_iff_not] at h; unfold clsI
  repeat' split
  all_goals omega
theorem nameB_empty {l : List UInt8} (h : l.length = 0) : nameB l = false := by
  have : l = [] := List.eq_nil_of_length_eq_zero h
  subst this; rfl
theorem nameB_long {l : List UInt8} (h : 12 < l.length) : nameB l = false := by
  have : decide (l.length ≤ 12) = false := decide_eq_false (by omega)
  unfold nameB; simp [this]
theorem nameB_first {l : List UInt8} (h : 0 < l.length) (h0 : isL l[0] = false) : nameB l = false := by
  have : l[0]?.any isL = false := by rw [List.getElem?_eq_getElem h]; exact h0
  unfold nameB; simp [this]
theorem nameB_other {l : List UInt8} {k : Nat} (h : k < l.length) (hd : isN l[k] = false) : nameB l = false := by
  have : l.all isN = false := by
    rw [List.all_eq_false]; exact ⟨l[k], List.getElem_mem h, by simp [hd]⟩
  unfold nameB; simp [this]
theorem nameB_yes {l : List UInt8} (h : 0 < l.length) (h1 : l.length ≤ 12) (h0 : isL l[0] = true) (hd : ∀ k (hk : k < l.length), isN l[k] = true) : nameB l = true := by
  have e1 : l.isEmpty = false := by
    cases l with
    | nil => exact absurd h (Nat.lt_irrefl 0)
    | cons x r => rfl
  have e2 : l[0]?.any isL = true := by rw [List.getElem?_eq_getElem h]; exact h0
  have e3 : l.all isN = true := by
    rw [List.all_eq_true]; intro x hx
    obtain ⟨k, hk, rfl⟩ := List.mem_iff_getElem.1 hx
    exact hd k hk
  unfold nameB; simp [e1, e2, e3, h1]

/-! the text of an integer is read as this integer -/
theorem itoa_length_pos (n : Int) : 1 ≤ (Lib.itoa n).length := by
  unfold Lib.itoa; split
  · simp
  · exact dec_length _
theorem nDigits_le : ∀ (k u : Nat), u < 10 ^ (k + 1) → Lib.nDigits u ≤ k + 1
  | 0, u, h => by rw [Lib.nDigits_small (by simpa using h)]; exact Nat.le_refl _
  | k + 1, u, h => by
    by_cases hu : u < 10
    · rw [Lib.nDigits_small hu]; omega
    · rw [Nat.pow_succ] at h
      rw [Lib.nDigits_big hu]
      have := nDigits_le k (u / 10) (by omega)
      omega
theorem itoa_length (n : Int) (h0 : -9223372036854775808 ≤ n) (h1 : n ≤ 9223372036854775807) : (Lib.itoa n).length ≤ 21 := by
  unfold Lib.itoa; split
  · rw [List.length_cons, Lib.decDigits_length]
    have := nDigits_le 19 n.natAbs (by omega)
    omega
  · rw [Lib.decDigits_length]
    have := nDigits_le 19 n.toNat (by omega)
    omega
theorem numB_itoa (n most : Int) : numB (Lib.itoa n) most = (decide (0 ≤ n) && decide (n ≤ most)) := by
  unfold Lib.itoa
  by_cases h : n < 0
  · rw [if_pos h, decide_eq_false (by omega), Bool.false_and]
    exact numB_other most (k := 0) (by simp) (show isD 45 = false by decide)
  · rw [if_neg h, decide_eq_true (by omega), Bool.true_and, numB_dec]
    congr 1; rw [Int.toNat_of_nonneg (by omega)]
theorem val_itoa {n : Int} (h : 0 ≤ n) : (val (Lib.itoa n) : Int) = n := by
  unfold Lib.itoa; rw [if_neg (by omega), dec_val, Int.toNat_of_nonneg h]
theorem numV_itoa (n most : Int) : numV (Lib.itoa n) most = if 0 ≤ n ∧ n ≤ most then n else 0 := by
  unfold numV; rw [numB_itoa]
  by_cases h : 0 ≤ n ∧ n ≤ most
  · rw [if_pos h, if_pos (by simp [h.1, h.2]), val_itoa h.1]
  · rw [if_neg h, if_neg (by simp; omega)]
theorem numB_more (n most : Int) : numB (48 :: Lib.itoa n) most = false :=
  numB_zero most (by have := itoa_length_pos n; simp; omega) (by rfl)
end Go.Proofs.YthdjpmiohfaphaaGreatDoor.lex
