/- The plain facts on meeting and joining that MaskMeets states. No program in this text. -/
import Derived.Test.YtpobgdolhdlmeaaDoorMkM
namespace Go.Proofs.YtpobgdolhdlmeaaDoor.msk
open Go.RowKit

theorem andI_comm (x y : Int) : andI x y = andI y x := by unfold andI; repeat (first | omega | split)
theorem orI_comm (x y : Int) : orI x y = orI y x := by unfold orI; repeat (first | omega | split)
theorem and_or {x y : Int} (h : 1 ≤ x ∧ x ≤ 3) (_k : 1 ≤ y ∧ y ≤ 3) : andI x (orI x y) = x := by unfold andI orI; repeat (first | omega | split)
theorem and_and {x y : Int} (h : 1 ≤ x ∧ x ≤ 3) (k : 1 ≤ y ∧ y ≤ 3) (n : andI x y ≠ 0) : (1 ≤ andI x y ∧ andI x y ≤ 3) ∧ andI (andI x y) x = andI x y ∧ andI (andI x y) y = andI x y := by
  rcases three h with rfl | rfl | rfl <;> rcases three k with rfl | rfl | rfl <;> revert n <;> decide
theorem zip_comm {g : Int → Int → Int} (hg : ∀ x y, g x y = g y x) {a b : List Int} (h : a.length = b.length) : zipI g a b = zipI g b a := by
  unfold zipI; rw [h]; exact List.map_congr_left (fun i _ => hg _ _)
theorem areB_comm (a b : List Int) : areB a b = areB b a := by
  unfold areB
  by_cases h : a.length = b.length
  · rw [decide_eq_true h, decide_eq_true h.symm, Bool.true_and, Bool.true_and, Bool.and_comm]
  · rw [decide_eq_false h, decide_eq_false (fun e => h e.symm)]; rfl
theorem meetB_comm (a b : List Int) : meetB a b = meetB b a := by
  by_cases h : areB a b = true
  · have h2 : areB b a = true := by rw [areB_comm]; exact h
    rw [meetB_is h, meetB_is h2, zip_comm andI_comm (areB_iff.1 h).1]
  · rw [meetB_are (Bool.eq_false_iff.2 h), meetB_are (by rw [areB_comm]; exact Bool.eq_false_iff.2 h)]
def meetL (a b : List Int) : List Int := if meetB a b = true then zipI andI a b else []
def joinL (a b : List Int) : List Int := if areB a b = true then zipI orI a b else []
theorem meetL_comm (a b : List Int) : meetL a b = meetL b a := by
  unfold meetL
  rw [meetB_comm b a]
  by_cases h : meetB a b = true
  · rw [if_pos h, if_pos h, zip_comm andI_comm (areB_iff.1 (meetB_iff.1 h).1).1]
  · rw [if_neg h, if_neg h]
theorem joinL_comm (a b : List Int) : joinL a b = joinL b a := by
  unfold joinL
  rw [areB_comm b a]
  by_cases h : areB a b = true
  · rw [if_pos h, if_pos h, zip_comm orI_comm (areB_iff.1 h).1]
  · rw [if_neg h, if_neg h]
theorem join_len {a b : List Int} (h : areB a b = true) : (joinL a b).length = a.length := by unfold joinL; rw [if_pos h, zipI_len]
theorem join_masks {a b : List Int} (h : areB a b = true) : (joinL a b).all mB = true := by
  refine all_iff.2 (fun i hi => ?_)
  rw [join_len h] at hi
  obtain ⟨p, q⟩ := areB_at h hi
  unfold joinL
  rw [if_pos h, zipI_at hi]; exact mB_iff.2 (orI_in p q)
theorem fin_join {a b : List Int} (h : areB a b = true) : finB a (joinL a b) = true := by
  refine finB_iff.2 ⟨areB_iff.2 ⟨(join_len h).symm, (areB_iff.1 h).2.1, join_masks h⟩, fun i hi => ?_⟩
  obtain ⟨p, q⟩ := areB_at h hi
  unfold joinL
  rw [if_pos h, zipI_at hi]; exact and_or p q
theorem fin_join2 {a b : List Int} (h : areB a b = true) : finB b (joinL a b) = true := by
  rw [joinL_comm]; exact fin_join (by rw [areB_comm]; exact h)
theorem meet_len {a b : List Int} (h : meetB a b = true) : (meetL a b).length = a.length := by unfold meetL; rw [if_pos h, zipI_len]
theorem meet_at {a b : List Int} (h : meetB a b = true) {i : Nat} (hi : i < a.length) : at0 (meetL a b) i = andI (at0 a i) (at0 b i) := by
  unfold meetL; rw [if_pos h, zipI_at hi]
theorem meet_masks {a b : List Int} (h : meetB a b = true) : (meetL a b).all mB = true := by
  unfold meetL; rw [if_pos h, ← meetB_is (meetB_iff.1 h).1]; exact h
theorem fin_meet {a b : List Int} (h : meetB a b = true) : finB (meetL a b) a = true := by
  obtain ⟨h1, h2⟩ := meetB_iff.1 h
  refine finB_iff.2 ⟨areB_iff.2 ⟨meet_len h, meet_masks h, (areB_iff.1 h1).2.1⟩, fun i hi => ?_⟩
  rw [meet_len h] at hi
  obtain ⟨p, q⟩ := areB_at h1 hi
  rw [meet_at h hi]; exact (and_and p q (h2 i hi)).2.1
theorem fin_meet2 {a b : List Int} (h : meetB a b = true) : finB (meetL a b) b = true := by
  rw [meetL_comm]; exact fin_meet (by rw [meetB_comm]; exact h)
theorem fin_is {a b : List Int} (h : areB a b = true) : finB a b = (meetB a b && decide (meetL a b = a)) := by
  by_cases hf : finB a b = true
  · have hz := (finB_iff.1 hf).2
    have hm : meetB a b = true := meetB_iff.2 ⟨h, fun i hi => by rw [hz i hi]; have := (areB_at h hi).1; omega⟩
    have he : meetL a b = a := ext0 (meet_len hm) (fun i hi => by rw [meet_len hm] at hi; rw [meet_at hm hi, hz i hi])
    rw [hf, hm, decide_eq_true he]; rfl
  · rw [Bool.eq_false_iff.2 hf]
    by_cases hm : meetB a b = true
    · rw [hm, decide_eq_false (fun e => hf (finB_iff.2 ⟨h, fun i hi => by rw [← meet_at hm hi, e]⟩))]; rfl
    · rw [Bool.eq_false_iff.2 hm]; rfl
theorem agr_at {s m : List Int} (hs : ∀ i, i < s.length → 1 ≤ at0 s i ∧ at0 s i ≤ 2) (hl : s.length = m.length) (hm : m.all mB = true) : agrB s m = true ↔ ∀ i, i < s.length → andI (at0 s i) (at0 m i) = at0 s i := by
  rw [agrB_iff]
  exact ⟨fun ⟨_, _, h⟩ i hi => (h i hi).2, fun h => ⟨hl, hm, fun i hi => ⟨hs i hi, h i hi⟩⟩⟩
theorem and_both {s x y : Int} (hs : 1 ≤ s ∧ s ≤ 2) (h : 1 ≤ x ∧ x ≤ 3) (k : 1 ≤ y ∧ y ≤ 3) : (andI s x = s ∧ andI s y = s ↔ andI x y ≠ 0 ∧ andI s (andI x y) = s) := by
  rcases (show s = 1 ∨ s = 2 by omega) with rfl | rfl <;> rcases three h with rfl | rfl | rfl <;> rcases three k with rfl | rfl | rfl <;> decide
theorem and_either {s x y : Int} (hs : 1 ≤ s ∧ s ≤ 2) (h : 1 ≤ x ∧ x ≤ 3) (k : 1 ≤ y ∧ y ≤ 3) (hx : andI s x = s ∨ andI s y = s) : andI s (orI x y) = s := by
  revert hx
  rcases (show s = 1 ∨ s = 2 by omega) with rfl | rfl <;> rcases three h with rfl | rfl | rfl <;> rcases three k with rfl | rfl | rfl <;> decide
/-- who agrees with both agrees with their meeting -/
theorem agr_both {s a b : List Int} (hs : ∀ i, i < s.length → 1 ≤ at0 s i ∧ at0 s i ≤ 2) (h : areB a b = true) (hl : s.length = a.length) : (agrB s a && agrB s b) = (meetB a b && agrB s (meetL a b)) := by
  obtain ⟨h1, h2, h3⟩ := areB_iff.1 h
  by_cases hm : meetB a b = true
  · rw [hm, Bool.true_and, Bool.eq_iff_iff, Bool.and_eq_true, agr_at hs hl h2, agr_at hs (by omega) h3, agr_at hs (by rw [meet_len hm]; exact hl) (meet_masks hm)]
    constructor
    · rintro ⟨p, q⟩ i hi
      obtain ⟨x, y⟩ := areB_at h (by omega : i < a.length)
      rw [meet_at hm (by omega)]
      exact ((and_both (hs i hi) x y).1 ⟨p i hi, q i hi⟩).2
    · intro p
      have hn := (meetB_iff.1 hm).2
      have key : ∀ i, i < s.length → andI (at0 s i) (at0 a i) = at0 s i ∧ andI (at0 s i) (at0 b i) = at0 s i := fun i hi => by
        obtain ⟨x, y⟩ := areB_at h (by omega : i < a.length)
        have := p i hi
        rw [meet_at hm (by omega)] at this
        exact (and_both (hs i hi) x y).2 ⟨hn i (by omega), this⟩
      exact ⟨fun i hi => (key i hi).1, fun i hi => (key i hi).2⟩
  · rw [Bool.eq_false_iff.2 hm, Bool.false_and, Bool.eq_false_iff, Ne, Bool.and_eq_true, agr_at hs hl h2, agr_at hs (by omega) h3]
    rintro ⟨p, q⟩
    exact hm (meetB_iff.2 ⟨h, fun i hi => by
      obtain ⟨x, y⟩ := areB_at h hi
      exact ((and_both (hs i (by omega)) x y).1 ⟨p i (by omega), q i (by omega)⟩).1⟩)
theorem agr_join {s a b : List Int} (hs : ∀ i, i < s.length → 1 ≤ at0 s i ∧ at0 s i ≤ 2) (h : areB a b = true) (hl : s.length = a.length) (hx : agrB s a = true ∨ agrB s b = true) : agrB s (joinL a b) = true := by
  obtain ⟨h1, h2, h3⟩ := areB_iff.1 h
  rw [agr_at hs (by rw [join_len h]; exact hl) (join_masks h)]
  rw [agr_at hs hl h2, agr_at hs (by omega) h3] at hx
  intro i hi
  obtain ⟨x, y⟩ := areB_at h (by omega : i < a.length)
  unfold joinL
  rw [if_pos h, zipI_at (by omega)]
  exact and_either (hs i hi) x y (hx.imp (fun p => p i hi) (fun p => p i hi))
end Go.Proofs.YtpobgdolhdlmeaaDoor.msk
