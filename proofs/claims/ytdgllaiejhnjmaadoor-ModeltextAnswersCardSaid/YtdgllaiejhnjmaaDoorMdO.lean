/- Plain facts on networks as text: further spaces and remarks change nothing. No program in this text. -/
import Derived.Test.YtdgllaiejhnjmaaDoorMdN
namespace Go.Proofs.YtdgllaiejhnjmaaDoor.mod
open lex net strs

def remark : List UInt8 := [35, 32, 114, 101, 109, 97, 114, 107, 10]
/-- a text with further spaces and remarks -/
inductive Wide : List UInt8 → List UInt8 → Prop
  | nil : Wide [] []
  | ch {c t w} (h : Wide t w) : Wide (c :: t) (c :: w)
  | sp {t w} (h : Wide t w) : Wide (32 :: t) (32 :: 32 :: w)
  | lead {t w} (h : Wide t w) (k : t ≠ []) : Wide (10 :: t) (10 :: 32 :: w)
  | rem {t w} (h : Wide t w) : Wide (10 :: t) (10 :: (remark ++ w))
  | lrem {t w} (h : Wide t w) (k : t ≠ []) : Wide (10 :: t) (10 :: 32 :: (remark ++ w))
def view (L : List (List UInt8)) : List (List (List UInt8)) := (L.map words).filter fun ws => !skipB ws
theorem view_cons (x : List UInt8) (L : List (List UInt8)) : view (x :: L) = (if skipB (words x) = true then [] else [words x]) ++ view L := by
  unfold view
  rw [List.map_cons, List.filter_cons]
  by_cases h : skipB (words x) = true
  · rw [if_pos h, h]; rfl
  · rw [if_neg h, Bool.eq_false_iff.2 h]; rfl
theorem words_two (x r : List UInt8) : ∀ cur, wordsF cur (x ++ 32 :: 32 :: r) = wordsF cur (x ++ 32 :: r) := by
  induction x with
  | nil =>
    intro cur
    rw [List.nil_append, List.nil_append, wordsF, wordsF, if_pos rfl, if_pos rfl]
    simp only [wordsF, if_true]
  | cons c x ih =>
    intro cur
    rw [List.cons_append, List.cons_append, wordsF, wordsF]
    split
    · rw [ih []]
    · exact ih _
theorem words_lead (r : List UInt8) : words (32 :: r) = words r := by unfold words; rw [wordsF, if_pos rfl, if_pos rfl]
theorem wide_lines {t w : List UInt8} (h : Wide t w) : ∀ (cur cur' : List UInt8) (L : List (List UInt8)), (∀ r, words (cur ++ r) = words (cur' ++ r)) → (t = [] → cur = [] → cur' = []) → linesF cur t = some L → ∃ L', linesF cur' w = some L' ∧ view L' = view L := by
  have wc : ∀ {cur cur' : List UInt8}, (∀ r, words (cur ++ r) = words (cur' ++ r)) → words cur = words cur' := fun h => by have := h []; simpa using this
  induction h with
  | nil =>
    intro cur cur' L hw he hl
    rw [linesF] at hl
    by_cases e : cur = []
    · rw [if_pos e] at hl
      injection hl with hl
      subst hl
      refine ⟨[], ?_, rfl⟩
      rw [linesF, if_pos (he rfl e)]
    · rw [if_neg e] at hl; cases hl
  | @ch c t w h ih =>
    intro cur cur' L hw he hl
    rw [linesF] at hl ⊢
    by_cases e : c = 10
    · rw [if_pos e] at hl ⊢
      cases e1 : linesF [] t with
      | none => rw [e1] at hl; cases hl
      | some L1 =>
        rw [e1] at hl
        injection hl with hl
        subst hl
        obtain ⟨L', h1, h2⟩ := ih [] [] L1 (fun _ => rfl) (fun _ h => h) e1
        exact ⟨cur' :: L', by rw [h1]; rfl, by rw [view_cons, view_cons, h2, wc hw]⟩
    · rw [if_neg e] at hl ⊢
      by_cases e2 : isT c = true
      · rw [if_pos e2] at hl ⊢
        refine ih (cur ++ [c]) (cur' ++ [c]) L (fun r => ?_) (fun _ h => by simp at h) hl
        rw [List.append_assoc, List.append_assoc]; exact hw _
      · rw [if_neg e2] at hl; cases hl
  | @sp t w h ih =>
    intro cur cur' L hw he hl
    rw [linesF, if_neg (by decide), if_pos (by decide)] at hl
    rw [linesF, if_neg (by decide), if_pos (by decide), linesF, if_neg (by decide), if_pos (by decide)]
    refine ih (cur ++ [32]) (cur' ++ [32] ++ [32]) L (fun r => ?_) (fun _ h => by simp at h) hl
    rw [List.append_assoc, hw]
    simp only [List.append_assoc, List.singleton_append]
    exact (words_two cur' r []).symm
  | @lead t w h k ih =>
    intro cur cur' L hw he hl
    rw [linesF, if_pos rfl] at hl
    rw [linesF, if_pos rfl, linesF, if_neg (by decide), if_pos (by decide)]
    cases e1 : linesF [] t with
    | none => rw [e1] at hl; cases hl
    | some L1 =>
      rw [e1] at hl
      injection hl with hl
      subst hl
      obtain ⟨L', h1, h2⟩ := ih [] [32] L1 (fun r => (words_lead r).symm) (fun h => absurd h k) e1
      refine ⟨cur' :: L', ?_, by rw [view_cons, view_cons, h2, wc hw]⟩
      rw [List.nil_append, h1]; rfl
  | @rem t w h ih =>
    intro cur cur' L hw he hl
    rw [linesF, if_pos rfl] at hl
    rw [linesF, if_pos rfl]
    cases e1 : linesF [] t with
    | none => rw [e1] at hl; cases hl
    | some L1 =>
      rw [e1] at hl
      injection hl with hl
      subst hl
      obtain ⟨L', h1, h2⟩ := ih [] [] L1 (fun _ => rfl) (fun _ h => h) e1
      have e2 : linesF [] (remark ++ w) = some ([35, 32, 114, 101, 109, 97, 114, 107] :: L') := by
        rw [show remark ++ w = [35, 32, 114, 101, 109, 97, 114, 107] ++ 10 :: w from rfl, linesF_run _ _ (by intro c hc; revert c hc; decide), linesF, if_pos rfl, h1]; rfl
      refine ⟨cur' :: [35, 32, 114, 101, 109, 97, 114, 107] :: L', by rw [e2]; rfl, ?_⟩
      rw [view_cons, view_cons, view_cons, h2, wc hw, if_pos (show skipB (words [35, 32, 114, 101, 109, 97, 114, 107]) = true from by decide)]; rfl
  | @lrem t w h k ih =>
    intro cur cur' L hw he hl
    rw [linesF, if_pos rfl] at hl
    rw [linesF, if_pos rfl]
    cases e1 : linesF [] t with
    | none => rw [e1] at hl; cases hl
    | some L1 =>
      rw [e1] at hl
      injection hl with hl
      subst hl
      obtain ⟨L', h1, h2⟩ := ih [] [] L1 (fun _ => rfl) (fun _ h => h) e1
      have e2 : linesF [] (32 :: (remark ++ w)) = some ([32, 35, 32, 114, 101, 109, 97, 114, 107] :: L') := by
        rw [show 32 :: (remark ++ w) = [32, 35, 32, 114, 101, 109, 97, 114, 107] ++ 10 :: w from rfl, linesF_run _ _ (by intro c hc; revert c hc; decide), linesF, if_pos rfl, h1]; rfl
      refine ⟨cur' :: [32, 35, 32, 114, 101, 109, 97, 114, 107] :: L', by rw [e2]; rfl, ?_⟩
      rw [view_cons, view_cons, view_cons, h2, wc hw, if_pos (show skipB (words [32, 35, 32, 114, 101, 109, 97, 114, 107]) = true from by decide)]; rfl
/-! while the wide text is being made, byte by byte -/
def WInv (t : List UInt8) (i : Nat) (w : List UInt8) : Prop := ∀ w', Wide (t.drop i) w' → Wide t (w ++ w')
theorem WInv.start (t : List UInt8) : WInv t 0 [] := fun w' h => by simpa using h
theorem WInv.done {t w : List UInt8} (h : WInv t t.length w) : Wide t w := by
  have := h [] (by rw [List.drop_length]; exact .nil)
  rwa [List.append_nil] at this
theorem WInv.ch {t w : List UInt8} {i : Nat} (h : WInv t i w) (hi : i < t.length) : WInv t (i + 1) (w ++ [t[i]]) := fun w' k => by
  rw [List.append_assoc]
  exact h _ (by rw [drop_cons hi]; exact .ch k)
theorem WInv.sp {t w : List UInt8} {i : Nat} (h : WInv t i w) (hi : i < t.length) (e : t[i] = 32) : WInv t (i + 1) ((w ++ [32]) ++ [32]) := fun w' k => by
  rw [List.append_assoc, List.append_assoc]
  exact h _ (by rw [drop_cons hi, e]; exact .sp k)
theorem drop_ne {t : List UInt8} {i : Nat} (h : i + 1 < t.length) : t.drop (i + 1) ≠ [] := fun e => by
  have := congrArg List.length e
  simp at this; omega
theorem WInv.lead {t w : List UInt8} {i : Nat} (h : WInv t i w) (hi : i + 1 < t.length) (e : t[i] = 10) : WInv t (i + 1) ((w ++ [10]) ++ [32]) := fun w' k => by
  rw [List.append_assoc, List.append_assoc]
  exact h _ (by rw [drop_cons (by omega), e]; exact .lead k (drop_ne hi))
theorem WInv.rem {t w : List UInt8} {i : Nat} (h : WInv t i w) (hi : i < t.length) (e : t[i] = 10) : WInv t (i + 1) ((w ++ [10]) ++ remark) := fun w' k => by
  rw [List.append_assoc, List.append_assoc]
  exact h _ (by rw [drop_cons hi, e]; exact .rem k)
theorem WInv.lrem {t w : List UInt8} {i : Nat} (h : WInv t i w) (hi : i + 1 < t.length) (e : t[i] = 10) : WInv t (i + 1) (((w ++ [10]) ++ [32]) ++ remark) := fun w' k => by
  rw [List.append_assoc, List.append_assoc, List.append_assoc]
  exact h _ (by rw [drop_cons (by omega), e]; exact .lrem k (drop_ne hi))
theorem Run.filter {st st' : List Nd × List Dv} {W : List (List (List UInt8))} (h : Run st W st') : Run st (W.filter fun ws => !skipB ws) st' := by
  induction h with
  | nil st => exact .nil st
  | skip h _ ih => rw [List.filter_cons, h]; exact ih
  | add h e _ ih => rw [List.filter_cons, h]; exact .add h e ih
theorem Run.of_filter : ∀ {W : List (List (List UInt8))} {st st' : List Nd × List Dv}, Run st (W.filter fun ws => !skipB ws) st' → Run st W st' := by
  intro W
  induction W with
  | nil => intro st st' h; exact h
  | cons ws W ih =>
    intro st st' h
    rw [List.filter_cons] at h
    by_cases e : skipB ws = true
    · rw [e] at h; exact .skip e (ih h)
    · have e' := Bool.eq_false_iff.2 e
      rw [e'] at h
      cases h with
      | skip h _ => exact absurd h e
      | add _ e k => exact .add e' e (ih k)
/-- NETWORKS SURVIVE THEIR TEXTS, also with further spaces and remarks in them -/
theorem parse_wide {ns : List Nd} {ds : List Dv} {w : List UInt8} (hc : chk ns ds = 0) (h : Wide (printT ns ds) w) (hl : w.length ≤ 65536) : parseR w = ((ns, ds), 0, 0) := by
  obtain ⟨h1, h2⟩ := print_ln hc
  obtain ⟨L, h3, h4⟩ := text_lines h1 (by omega)
  have h3' : linesF [] (printT ns ds) = some L := by
    unfold lines at h3
    split at h3
    · cases h3
    · exact h3
  obtain ⟨L', h5, h6⟩ := wide_lines h [] [] L (fun _ => rfl) (fun _ h => h) h3'
  refine Run.parse (L := L') (by unfold lines; rw [if_neg (by omega)]; exact h5) ?_ hc
  apply Run.of_filter
  have : view L' = view L := h6
  unfold view at this
  rw [this, h4]
  exact (run_print hc).filter
end Go.Proofs.YtdgllaiejhnjmaaDoor.mod
