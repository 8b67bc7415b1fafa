/- The plain facts on masks that the proofs of layer 6 use: which numbers are masks, the unknown devices, the states that agree and their order, what agrees with both, with one of both, what is finer. No program in this text. -/
import Derived.Test.YtoeojhabhnoojaaDoorProg
import Derived.WalkKit
namespace Go.Proofs.YtoeojhabhnoojaaDoor.msk
open Go.RowKit

def mB (x : Int) : Bool := decide (1 ≤ x ∧ x ≤ 3)
def pB (x : Int) : Bool := decide (1 ≤ x ∧ x ≤ 2)
def hB (f x : Int) : Bool := if f = 1 then mB x else pB x
theorem hB_one (x : Int) : hB 1 x = mB x := rfl
theorem hB_two (x : Int) : hB 2 x = pB x := rfl
theorem mB_iff {x : Int} : mB x = true ↔ 1 ≤ x ∧ x ≤ 3 := by unfold mB; exact decide_eq_true_iff
theorem pB_iff {x : Int} : pB x = true ↔ 1 ≤ x ∧ x ≤ 2 := by unfold pB; exact decide_eq_true_iff
theorem mB_no {x : Int} : mB x = false ↔ ¬ (1 ≤ x ∧ x ≤ 3) := by unfold mB; exact decide_eq_false_iff_not
theorem pB_no {x : Int} : pB x = false ↔ ¬ (1 ≤ x ∧ x ≤ 2) := by unfold pB; exact decide_eq_false_iff_not

def andI (x y : Int) : Int := if x = 3 then y else if y = 3 then x else if x = y then x else 0
def orI (x y : Int) : Int := if x = y then x else 3
theorem andI_in {x y : Int} (h : 1 ≤ x ∧ x ≤ 3) (k : 1 ≤ y ∧ y ≤ 3) : 0 ≤ andI x y ∧ andI x y ≤ 3 := by unfold andI; repeat (first | omega | split)
theorem orI_in {x y : Int} (h : 1 ≤ x ∧ x ≤ 3) (_k : 1 ≤ y ∧ y ≤ 3) : 1 ≤ orI x y ∧ orI x y ≤ 3 := by unfold orI; repeat (first | omega | split)
theorem three {x : Int} (h : 1 ≤ x ∧ x ≤ 3) : x = 1 ∨ x = 2 ∨ x = 3 := by omega
theorem bits_and {x y : Int} (h : 1 ≤ x ∧ x ≤ 3) (k : 1 ≤ y ∧ y ≤ 3) : bits BinOp.and IntKind.i64 x y = andI x y := by
  rcases three h with rfl | rfl | rfl <;> rcases three k with rfl | rfl | rfl <;> decide +kernel
theorem bits_or {x y : Int} (h : 1 ≤ x ∧ x ≤ 3) (k : 1 ≤ y ∧ y ≤ 3) : bits BinOp.or IntKind.i64 x y = orI x y := by
  rcases three h with rfl | rfl | rfl <;> rcases three k with rfl | rfl | rfl <;> decide +kernel
theorem bits_not {x y : Int} (h : 1 ≤ x ∧ x ≤ 3) (k : 1 ≤ y ∧ y ≤ 3) : (bits BinOp.andNot IntKind.i64 x y = 0) = (andI x y = x) := by
  rcases three h with rfl | rfl | rfl <;> rcases three k with rfl | rfl | rfl <;> simp [andI] <;> decide +kernel

/-! lists of masks -/
def at0 (l : List Int) (i : Nat) : Int := l.getD i 0
theorem at0_get {l : List Int} {i : Nat} (h : i < l.length) : at0 l i = l[i] := by simp [at0, List.getD_eq_getElem?_getD, h]
theorem all_iff {p : Int → Bool} {l : List Int} : l.all p = true ↔ ∀ i, i < l.length → p (at0 l i) = true := by
  rw [List.all_eq_true]
  constructor
  · intro h i hi; rw [at0_get hi]; exact h _ (List.getElem_mem hi)
  · intro h x hx
    obtain ⟨i, hi, rfl⟩ := List.mem_iff_getElem.1 hx
    rw [← at0_get hi]; exact h i hi
theorem all_no {p : Int → Bool} {l : List Int} {i : Nat} (hi : i < l.length) (h : p (at0 l i) = false) : l.all p = false := by
  rw [Bool.eq_false_iff]
  intro h2
  have := all_iff.1 h2 i hi
  rw [h] at this; cases this
/-- the devices before n that are unknown -/
def unk (f : Nat → Int) : Nat → List Nat
  | 0 => []
  | n + 1 => if f n = 3 then unk f n ++ [n] else unk f n
def unkL (l : List Int) : List Nat := unk (at0 l) l.length
theorem unk_le (f : Nat → Int) (n : Nat) : (unk f n).length ≤ n := by
  induction n with
  | zero => simp [unk]
  | succ n ih => rw [unk]; split; · rw [List.length_append, List.length_singleton]; omega
                 omega
theorem unk_mem {f : Nat → Int} {n i : Nat} : i ∈ unk f n ↔ i < n ∧ f i = 3 := by
  induction n with
  | zero => simp [unk]
  | succ n ih =>
    rw [unk]
    by_cases h : f n = 3
    · rw [if_pos h, List.mem_append, ih, List.mem_singleton]
      constructor
      · rintro (h1 | rfl)
        · exact ⟨by omega, h1.2⟩
        · exact ⟨by omega, h⟩
      · rintro ⟨h1, h2⟩
        by_cases e : i = n
        · exact .inr e
        · exact .inl ⟨by omega, h2⟩
    · rw [if_neg h, ih]
      constructor
      · rintro ⟨h1, h2⟩; exact ⟨by omega, h2⟩
      · rintro ⟨h1, h2⟩
        by_cases e : i = n
        · subst e; exact absurd h2 h
        · exact ⟨by omega, h2⟩
theorem unk_congr {f g : Nat → Int} {n : Nat} (h : ∀ i, i < n → f i = g i) : unk f n = unk g n := by
  induction n with
  | zero => rfl
  | succ n ih => rw [unk, unk, h n (by omega), ih (fun i hi => h i (by omega))]
theorem unk_mono (f : Nat → Int) {a b : Nat} (h : a ≤ b) : ∃ t, unk f b = unk f a ++ t := by
  induction b with
  | zero => obtain rfl : a = 0 := by omega
            exact ⟨[], by simp⟩
  | succ b ih =>
    by_cases e : a = b + 1
    · subst e; exact ⟨[], by simp⟩
    · obtain ⟨t, ht⟩ := ih (by omega)
      rw [unk]
      split
      · exact ⟨t ++ [b], by rw [ht, List.append_assoc]⟩
      · exact ⟨t, ht⟩
/-- the place of an unknown device among them -/
theorem unk_at {f : Nat → Int} {n i : Nat} (hi : i < n) (h : f i = 3) : (unk f n)[(unk f i).length]? = some i := by
  obtain ⟨t, ht⟩ := unk_mono f (show i + 1 ≤ n by omega)
  rw [unk, if_pos h] at ht
  rw [ht, List.append_assoc, List.getElem?_append_right (Nat.le_refl _), Nat.sub_self]; rfl
theorem unk_lt {f : Nat → Int} {n i : Nat} (hi : i < n) (h : f i = 3) : (unk f i).length < (unk f n).length := by
  have := unk_at hi h
  exact (List.getElem?_eq_some_iff.1 this).1
/-- which one stands at a place -/
theorem unk_place {f : Nat → Int} {n q i : Nat} (h : (unk f n)[q]? = some i) : i < n ∧ f i = 3 ∧ (unk f i).length = q := by
  induction n with
  | zero => simp [unk] at h
  | succ n ih =>
    rw [unk] at h
    by_cases e : f n = 3
    · rw [if_pos e] at h
      by_cases hq : q < (unk f n).length
      · rw [List.getElem?_append_left hq] at h
        obtain ⟨h1, h2, h3⟩ := ih h
        exact ⟨by omega, h2, h3⟩
      · rw [List.getElem?_append_right (by omega)] at h
        have hl := (List.getElem?_eq_some_iff.1 h).1
        rw [List.length_singleton] at hl
        have h0 : q - (unk f n).length = 0 := by omega
        rw [h0] at h
        simp at h
        subst h
        exact ⟨by omega, e, by omega⟩
    · rw [if_neg e] at h
      obtain ⟨h1, h2, h3⟩ := ih h
      exact ⟨by omega, h2, h3⟩
/-- all unknown ones replaced -/
def setL (p : Int) (l : List Int) : List Int := l.map fun x => if x = 3 then p else x
theorem setL_len (p : Int) (l : List Int) : (setL p l).length = l.length := by simp [setL]
theorem setL_at {p : Int} {l : List Int} {i : Nat} (hi : i < l.length) : at0 (setL p l) i = if at0 l i = 3 then p else at0 l i := by
  rw [at0_get (by rw [setL_len]; exact hi), at0_get hi]; simp [setL]
theorem ext0 {l r : List Int} (hl : l.length = r.length) (h : ∀ i, i < l.length → at0 l i = at0 r i) : l = r := by
  refine List.ext_getElem hl (fun i h1 h2 => ?_)
  have := h i h1
  rwa [at0_get h1, at0_get h2] at this

/-! the states -/
/-- the state with number k, device by device -/
def stA (f : Nat → Int) (n k i : Nat) : Int := if f i = 3 then 1 + ((k / 2 ^ ((unk f n).length - 1 - (unk f i).length) % 2 : Nat) : Int) else f i
def stL (l : List Int) (k : Nat) : List Int := (List.range l.length).map (stA (at0 l) l.length k)
theorem stL_len (l : List Int) (k : Nat) : (stL l k).length = l.length := by simp [stL]
theorem stL_at {l : List Int} {k i : Nat} (hi : i < l.length) : at0 (stL l k) i = stA (at0 l) l.length k i := by
  rw [at0_get (by rw [stL_len]; exact hi)]; simp [stL]
theorem stA_old {f : Nat → Int} {n i : Nat} (k : Nat) (hi : i < n) (h : f n = 3) : stA f (n + 1) k i = stA f n (k / 2) i := by
  unfold stA
  by_cases h3 : f i = 3
  · rw [if_pos h3, if_pos h3, unk, if_pos h, List.length_append, List.length_singleton]
    have hl := unk_lt hi h3
    have e : (unk f n).length + 1 - 1 - (unk f i).length = ((unk f n).length - 1 - (unk f i).length) + 1 := by omega
    rw [e, Nat.pow_succ, Nat.mul_comm, Nat.div_div_eq_div_mul]
  · rw [if_neg h3, if_neg h3]
theorem stA_same {f : Nat → Int} {n i : Nat} (k : Nat) (h : f n ≠ 3) : stA f (n + 1) k i = stA f n k i := by
  unfold stA; rw [unk, if_neg h]
theorem stA_new {f : Nat → Int} {n : Nat} (k : Nat) (h : f n = 3) : stA f (n + 1) k n = 1 + ((k % 2 : Nat) : Int) := by
  unfold stA
  rw [if_pos h, unk, if_pos h, List.length_append, List.length_singleton]
  have e : (unk f n).length + 1 - 1 - (unk f n).length = 0 := by omega
  rw [e, Nat.pow_zero, Nat.div_one]
theorem stA_plain {f : Nat → Int} {n k i : Nat} (h : f i ≠ 3) : stA f n k i = f i := by unfold stA; rw [if_neg h]
/-- the first of them, and the last -/
theorem stL_zero (l : List Int) : stL l 0 = setL 1 l := by
  refine ext0 (by rw [stL_len, setL_len]) (fun i hi => ?_)
  rw [stL_len] at hi
  rw [stL_at hi, setL_at hi]
  unfold stA
  by_cases h : at0 l i = 3
  · rw [if_pos h, if_pos h]; simp
  · rw [if_neg h, if_neg h]
theorem pow_last (U e : Nat) (h : e < U) : (2 ^ U - 1) / 2 ^ e % 2 = 1 := by
  have h1 : 2 ^ U - 1 = (2 ^ (U - e - 1) * 2 - 1) * 2 ^ e + (2 ^ e - 1) := by
    have e1 : 2 ^ U = 2 ^ (U - e - 1) * 2 * 2 ^ e := by rw [← Nat.pow_succ, ← Nat.pow_add]; congr 1; omega
    have hp : 0 < 2 ^ e := Nat.pow_pos (by decide)
    have hq : 0 < 2 ^ (U - e - 1) := Nat.pow_pos (by decide)
    rw [e1, Nat.sub_mul]
    have : 2 ^ e ≤ 2 ^ (U - e - 1) * 2 * 2 ^ e := Nat.le_mul_of_pos_left _ (by omega)
    omega
  have hp : 0 < 2 ^ e := Nat.pow_pos (by decide)
  have hq : 0 < 2 ^ (U - e - 1) := Nat.pow_pos (by decide)
  rw [h1, Nat.mul_comm, Nat.mul_add_div hp, Nat.div_eq_of_lt (show 2 ^ e - 1 < 2 ^ e by omega), Nat.add_zero]
  omega
theorem stL_last (l : List Int) : stL l (2 ^ (unkL l).length - 1) = setL 2 l := by
  refine ext0 (by rw [stL_len, setL_len]) (fun i hi => ?_)
  rw [stL_len] at hi
  rw [stL_at hi, setL_at hi]
  unfold stA
  by_cases h : at0 l i = 3
  · rw [if_pos h, if_pos h]
    have := unk_lt hi h
    rw [unkL, pow_last _ _ (by omega)]; rfl
  · rw [if_neg h, if_neg h]
/-- the order of two that follow one another -/
theorem st_order (f : Nat → Int) (n k : Nat) (hk : k + 1 < 2 ^ (unk f n).length) : ∃ j, j < n ∧ (∀ i, i < j → stA f n k i = stA f n (k + 1) i) ∧ stA f n k j < stA f n (k + 1) j := by
  induction n generalizing k with
  | zero => simp [unk] at hk
  | succ n ih =>
    by_cases h : f n = 3
    · rw [unk, if_pos h, List.length_append, List.length_singleton, Nat.pow_succ] at hk
      by_cases hp : k % 2 = 0
      · refine ⟨n, by omega, fun i hi => ?_, ?_⟩
        · rw [stA_old _ hi h, stA_old _ hi h]; congr 1; omega
        · rw [stA_new _ h, stA_new _ h]; omega
      · obtain ⟨j, hj, h1, h2⟩ := ih (k / 2) (by omega)
        have e : (k + 1) / 2 = k / 2 + 1 := by omega
        refine ⟨j, by omega, fun i hi => ?_, ?_⟩
        · rw [stA_old _ (by omega) h, stA_old _ (by omega) h, e]; exact h1 i hi
        · rw [stA_old _ hj h, stA_old _ hj h, e]; exact h2
    · rw [unk, if_neg h] at hk
      obtain ⟨j, hj, h1, h2⟩ := ih k hk
      refine ⟨j, by omega, fun i hi => ?_, ?_⟩
      · rw [stA_same _ h, stA_same _ h]; exact h1 i hi
      · rw [stA_same _ h, stA_same _ h]; exact h2
theorem stA_in {f : Nat → Int} {n k i : Nat} (h : 1 ≤ f i ∧ f i ≤ 3) : 1 ≤ stA f n k i ∧ stA f n k i ≤ 2 := by
  unfold stA; split <;> omega

/-! all of them, as the reference says them -/
def allN (f : Nat → Int) : Nat → List (List Int)
  | 0 => [[]]
  | n + 1 => (allN f n).flatMap fun s => (if f n = 1 ∨ f n = 3 then [s ++ [1]] else []) ++ (if f n = 2 ∨ f n = 3 then [s ++ [2]] else [])
def stR (f : Nat → Int) (n k : Nat) : List Int := (List.range n).map (stA f n k)
theorem range_two (m : Nat) : List.range (2 * m) = (List.range m).flatMap fun k => [2 * k, 2 * k + 1] := by
  induction m with
  | zero => rfl
  | succ m ih =>
    rw [show 2 * (m + 1) = 2 * m + 1 + 1 by omega, List.range_succ, List.range_succ, ih, List.range_succ, List.flatMap_append]
    simp
theorem allN_eq (f : Nat → Int) (n : Nat) (h : ∀ i, i < n → 1 ≤ f i ∧ f i ≤ 3) : allN f n = (List.range (2 ^ (unk f n).length)).map (stR f n) := by
  induction n with
  | zero => simp [allN, unk, stR]
  | succ n ih =>
    rw [allN, ih (fun i hi => h i (by omega)), unk]
    have hn := h n (by omega)
    by_cases h3 : f n = 3
    · rw [if_pos h3, List.length_append, List.length_singleton, Nat.pow_succ, Nat.mul_comm, range_two, List.flatMap_map, List.map_flatMap]
      congr 1
      funext k
      rw [if_pos (.inr h3), if_pos (.inr h3)]
      have e1 : stR f (n + 1) (2 * k) = stR f n k ++ [1] := by
        unfold stR
        rw [List.range_succ, List.map_append, List.map_singleton, stA_new _ h3]
        congr 1
        · refine List.map_congr_left (fun i hi => ?_)
          rw [stA_old _ (List.mem_range.1 hi) h3]; congr 1; omega
        · simp
      have e2 : stR f (n + 1) (2 * k + 1) = stR f n k ++ [2] := by
        unfold stR
        rw [List.range_succ, List.map_append, List.map_singleton, stA_new _ h3]
        congr 1
        · refine List.map_congr_left (fun i hi => ?_)
          rw [stA_old _ (List.mem_range.1 hi) h3]; congr 1; omega
        · have : (2 * k + 1) % 2 = 1 := by omega
          rw [this]; rfl
      simp [e1, e2]
    · rw [if_neg h3, List.flatMap_map]
      have e : ∀ k, stR f (n + 1) k = stR f n k ++ [f n] := fun k => by
        unfold stR
        rw [List.range_succ, List.map_append, List.map_singleton, stA_plain h3]
        congr 1
        exact List.map_congr_left (fun i hi => stA_same _ h3)
      rw [List.map_eq_flatMap]
      congr 1
      funext k
      rw [e]
      rcases (show f n = 1 ∨ f n = 2 by omega) with h1 | h1 <;> simp [h1]
theorem allN_states (l : List Int) (h : l.all mB = true) : allN (at0 l) l.length = (List.range (2 ^ (unkL l).length)).map (stL l) :=
  allN_eq _ _ (fun i hi => mB_iff.1 (all_iff.1 h i hi))

/-! both, one of both, finer -/
def zipI (g : Int → Int → Int) (a b : List Int) : List Int := (List.range a.length).map fun i => g (at0 a i) (at0 b i)
theorem zipI_len (g : Int → Int → Int) (a b : List Int) : (zipI g a b).length = a.length := by simp [zipI]
theorem zipI_at {g : Int → Int → Int} {a b : List Int} {i : Nat} (h : i < a.length) : at0 (zipI g a b) i = g (at0 a i) (at0 b i) := by
  rw [at0_get (by rw [zipI_len]; exact h)]; simp [zipI]
def areB (a b : List Int) : Bool := decide (a.length = b.length) && a.all mB && b.all mB
def meetB (a b : List Int) : Bool := areB a b && (zipI andI a b).all mB
def finB (a b : List Int) : Bool := areB a b && (List.range a.length).all fun i => decide (andI (at0 a i) (at0 b i) = at0 a i)
def agrB (s m : List Int) : Bool := s.all pB && finB s m
theorem areB_iff {a b : List Int} : areB a b = true ↔ a.length = b.length ∧ a.all mB = true ∧ b.all mB = true := by
  unfold areB; rw [Bool.and_eq_true, Bool.and_eq_true, decide_eq_true_iff, and_assoc]
theorem areB_at {a b : List Int} (h : areB a b = true) {i : Nat} (hi : i < a.length) : (1 ≤ at0 a i ∧ at0 a i ≤ 3) ∧ (1 ≤ at0 b i ∧ at0 b i ≤ 3) := by
  obtain ⟨h1, h2, h3⟩ := areB_iff.1 h
  exact ⟨mB_iff.1 (all_iff.1 h2 i hi), mB_iff.1 (all_iff.1 h3 i (by omega))⟩
theorem finB_iff {a b : List Int} : finB a b = true ↔ areB a b = true ∧ ∀ i, i < a.length → andI (at0 a i) (at0 b i) = at0 a i := by
  unfold finB
  rw [Bool.and_eq_true, List.all_eq_true]
  constructor
  · rintro ⟨h1, h2⟩; exact ⟨h1, fun i hi => of_decide_eq_true (h2 i (List.mem_range.2 hi))⟩
  · rintro ⟨h1, h2⟩; exact ⟨h1, fun i hi => decide_eq_true (h2 i (List.mem_range.1 hi))⟩
theorem finB_no {a b : List Int} {i : Nat} (hi : i < a.length) (h : andI (at0 a i) (at0 b i) ≠ at0 a i) : finB a b = false := by
  rw [Bool.eq_false_iff]; intro k; exact h ((finB_iff.1 k).2 i hi)
theorem finB_are {a b : List Int} (h : areB a b = false) : finB a b = false := by unfold finB; rw [h]; rfl
theorem meetB_are {a b : List Int} (h : areB a b = false) : meetB a b = false := by unfold meetB; rw [h]; rfl
theorem meetB_is {a b : List Int} (h : areB a b = true) : meetB a b = (zipI andI a b).all mB := by unfold meetB; rw [h]; rfl
theorem meetB_iff {a b : List Int} : meetB a b = true ↔ areB a b = true ∧ ∀ i, i < a.length → andI (at0 a i) (at0 b i) ≠ 0 := by
  unfold meetB
  rw [Bool.and_eq_true]
  constructor
  · rintro ⟨h1, h2⟩
    refine ⟨h1, fun i hi => ?_⟩
    have := mB_iff.1 (all_iff.1 h2 i (by rw [zipI_len]; exact hi))
    rw [zipI_at hi] at this; omega
  · rintro ⟨h1, h2⟩
    refine ⟨h1, all_iff.2 (fun i hi => ?_)⟩
    rw [zipI_len] at hi
    rw [zipI_at hi]
    obtain ⟨p, q⟩ := areB_at h1 hi
    have := andI_in p q
    have := h2 i hi
    exact mB_iff.2 (by omega)
theorem meetB_no {a b : List Int} {i : Nat} (hi : i < a.length) (h : andI (at0 a i) (at0 b i) = 0) : meetB a b = false := by
  rw [Bool.eq_false_iff]; intro k; exact (meetB_iff.1 k).2 i hi h
theorem agrB_iff {s m : List Int} : agrB s m = true ↔ s.length = m.length ∧ m.all mB = true ∧ ∀ i, i < s.length → (1 ≤ at0 s i ∧ at0 s i ≤ 2) ∧ andI (at0 s i) (at0 m i) = at0 s i := by
  unfold agrB
  rw [Bool.and_eq_true, finB_iff, areB_iff, all_iff]
  constructor
  · rintro ⟨h1, ⟨h2, h3, h4⟩, h5⟩
    exact ⟨h2, h4, fun i hi => ⟨pB_iff.1 (h1 i hi), h5 i hi⟩⟩
  · rintro ⟨h1, h2, h3⟩
    exact ⟨fun i hi => pB_iff.2 (h3 i hi).1, ⟨h1, all_iff.2 (fun i hi => mB_iff.2 (by have := (h3 i hi).1; omega)), h2⟩, fun i hi => (h3 i hi).2⟩
/-- the states are just those that agree -/
theorem agr_st {l : List Int} (h : l.all mB = true) (k : Nat) : agrB (stL l k) l = true := by
  refine agrB_iff.2 ⟨stL_len l k, h, fun i hi => ?_⟩
  rw [stL_len] at hi
  have hm := mB_iff.1 (all_iff.1 h i hi)
  have hs := stA_in (f := at0 l) (n := l.length) (k := k) hm
  rw [stL_at hi]
  refine ⟨hs, ?_⟩
  by_cases h3 : at0 l i = 3
  · rw [h3]; unfold andI; rw [if_neg (by omega), if_pos rfl]
  · rw [stA_plain h3]; unfold andI; rw [if_neg h3, if_neg h3, if_pos rfl]
theorem ret_bool {x y : Bool} (g : x = y) : Ending.returned (.bool x) = .returned (.bool y) := by rw [g]
end Go.Proofs.YtoeojhabhnoojaaDoor.msk
