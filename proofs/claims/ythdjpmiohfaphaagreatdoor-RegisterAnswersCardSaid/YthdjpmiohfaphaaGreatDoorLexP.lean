/- Plain facts on words and lines, and on what is joined: no walk, no program in this text. -/
import Derived.Test.YthdjpmiohfaphaaGreatDoorLexM
import Derived.Test.YthdjpmiohfaphaaGreatDoorStrs
import Derived.Lib.Join
namespace Go.Proofs.YthdjpmiohfaphaaGreatDoor.lex
open Go.RowKit strs


/-- the words of a line: cur is the word that is being read -/
def wordsF : List UInt8 → List UInt8 → List (List UInt8)
  | cur, [] => if cur = [] then [] else [cur]
  | cur, c :: r => if c = 32 then (if cur = [] then wordsF [] r else cur :: wordsF [] r) else wordsF (cur ++ [c]) r
def words (l : List UInt8) : List (List UInt8) := wordsF [] l

/-- the part from i to j -/
def part (l : List UInt8) (i j : Nat) : List UInt8 := (l.drop i).take (j - i)
theorem part_self (l : List UInt8) (i : Nat) : part l i i = [] := by simp [part]
theorem part_nil {l : List UInt8} {i j : Nat} (h : i ≤ j) (hj : j ≤ l.length) : part l i j = [] ↔ i = j := by
  constructor
  · intro h1
    have := congrArg List.length h1
    simp [part] at this
    omega
  · rintro rfl; exact part_self _ _
theorem part_snoc {l : List UInt8} {i j : Nat} (h : i ≤ j) (hj : j < l.length) : part l i (j + 1) = part l i j ++ [l[j]] := by
  unfold part
  rw [show j + 1 - i = (j - i) + 1 from by omega, List.take_succ_eq_append_getElem (by simp; omega)]
  simp [show i + (j - i) = j from by omega]
theorem drop_cons {l : List UInt8} {k : Nat} (h : k < l.length) : l.drop k = l[k] :: l.drop (k + 1) := by simp
/-- the words that are still to come -/
theorem words_space {l : List UInt8} {i k : Nat} (hk : k < l.length) (hs : l[k] = 32) (hne : part l i k ≠ []) : wordsF (part l i k) (l.drop k) = part l i k :: wordsF (part l (k + 1) (k + 1)) (l.drop (k + 1)) := by
  rw [drop_cons hk, wordsF, if_pos hs, if_neg hne, part_self]
theorem words_space0 {l : List UInt8} {i k : Nat} (hk : k < l.length) (hs : l[k] = 32) (hne : part l i k = []) : wordsF (part l i k) (l.drop k) = wordsF (part l (k + 1) (k + 1)) (l.drop (k + 1)) := by
  rw [drop_cons hk, wordsF, if_pos hs, if_pos hne, part_self]
theorem words_other {l : List UInt8} {i k : Nat} (hi : i ≤ k) (hk : k < l.length) (hs : l[k] ≠ 32) : wordsF (part l i k) (l.drop k) = wordsF (part l i (k + 1)) (l.drop (k + 1)) := by
  rw [drop_cons hk, wordsF, if_neg hs, part_snoc hi hk]
theorem step_space {l : List UInt8} {W : List (List UInt8)} {i k : Nat} (h : words l = W ++ wordsF (part l i k) (l.drop k)) (hk : k < l.length) (hs : l[k] = 32) (hi : i < k) :
    words l = (W ++ [part l i k]) ++ wordsF (part l (k + 1) (k + 1)) (l.drop (k + 1)) := by
  rw [h, words_space hk hs (fun e => by have := (part_nil (Nat.le_of_lt hi) (Nat.le_of_lt hk)).1 e; omega), List.append_assoc]; rfl
theorem step_space0 {l : List UInt8} {W : List (List UInt8)} {k : Nat} (h : words l = W ++ wordsF (part l k k) (l.drop k)) (hk : k < l.length) (hs : l[k] = 32) :
    words l = W ++ wordsF (part l (k + 1) (k + 1)) (l.drop (k + 1)) := by
  rw [h, words_space0 hk hs (part_self _ _)]
theorem step_other {l : List UInt8} {W : List (List UInt8)} {i k : Nat} (h : words l = W ++ wordsF (part l i k) (l.drop k)) (hk : k < l.length) (hs : l[k] ≠ 32) (hi : i ≤ k) :
    words l = W ++ wordsF (part l i (k + 1)) (l.drop (k + 1)) := by
  rw [h, words_other hi hk hs]
theorem step_end {l : List UInt8} {W : List (List UInt8)} {i k : Nat} (h : words l = W ++ wordsF (part l i k) (l.drop k)) (hk : k = l.length) (hi : i < k) : words l = W ++ [part l i k] := by
  subst hk
  rw [h, List.drop_length, wordsF, if_neg (fun e => by have := (part_nil (Nat.le_of_lt hi) (Nat.le_refl _)).1 e; omega)]
theorem step_end0 {l : List UInt8} {W : List (List UInt8)} {k : Nat} (h : words l = W ++ wordsF (part l k k) (l.drop k)) (hk : k = l.length) : words l = W := by
  subst hk
  rw [h, List.drop_length, wordsF, if_pos (part_self _ _), List.append_nil]
theorem cls_space {c : UInt8} (h : c = 32) : clsI c.toNat = 2 := by subst h; rfl
theorem cls_not_space {c : UInt8} (h : c ≠ 32) : clsI c.toNat ≠ 2 := by
  have : c.toNat ≠ 32 := fun e => h (UInt8.toNat_inj.1 e)
  unfold clsI
  repeat' split
  all_goals omega


def isT (c : UInt8) : Bool := decide (32 ≤ c.toNat ∧ c.toNat ≤ 126)
/-- the lines of a text: cur is the line that is being read -/
def linesF : List UInt8 → List UInt8 → Option (List (List UInt8))
  | cur, [] => if cur = [] then some [] else none
  | cur, c :: r => if c = 10 then (linesF [] r).map (cur :: ·) else if isT c then linesF (cur ++ [c]) r else none
def lines (l : List UInt8) : Option (List (List UInt8)) := if 65536 < l.length then none else linesF [] l

theorem cls_feed {c : UInt8} (h : c = 10) : clsI c.toNat = 1 := by subst h; rfl
theorem cls_not_feed {c : UInt8} (h : c ≠ 10) : clsI c.toNat ≠ 1 := by
  have : c.toNat ≠ 10 := fun e => h (UInt8.toNat_inj.1 e)
  unfold clsI
  repeat' split
  all_goals omega
theorem cls_text {c : UInt8} (h : isT c = true) : clsI c.toNat ≠ 0 := by
  unfold isT at h; have := of_decide_eq_true h; unfold clsI
  repeat' split
  all_goals omega
theorem cls_foreign {c : UInt8} (h0 : c ≠ 10) (h : isT c = false) : clsI c.toNat = 0 := by
  have h1 : c.toNat ≠ 10 := fun e => h0 (UInt8.toNat_inj.1 e)
  unfold isT at h; have := of_decide_eq_false h; unfold clsI
  rw [if_neg (by omega), if_neg (by omega), if_neg (by omega), if_neg (by omega), if_neg (by omega), if_neg (by omega)]
/-- the invariant: what has been read, and what is still to come -/
def LInv (l : List UInt8) (W : List (List UInt8)) (i k : Nat) : Prop := linesF [] l = (linesF (part l i k) (l.drop k)).map (W ++ ·)
theorem LInv.start (l : List UInt8) : LInv l [] 0 0 := by
  unfold LInv; rw [part_self, List.drop_zero]; cases linesF [] l <;> rfl
theorem LInv.feed {l : List UInt8} {W : List (List UInt8)} {i k : Nat} (h : LInv l W i k) (hk : k < l.length) (hs : l[k] = 10) : LInv l (W ++ [part l i k]) (k + 1) (k + 1) := by
  unfold LInv at *
  rw [h, drop_cons hk, linesF, if_pos hs, part_self]
  cases linesF [] (l.drop (k + 1)) <;> simp
theorem LInv.text {l : List UInt8} {W : List (List UInt8)} {i k : Nat} (h : LInv l W i k) (hi : i ≤ k) (hk : k < l.length) (hs : l[k] ≠ 10) (ht : isT l[k] = true) : LInv l W i (k + 1) := by
  unfold LInv at *
  rw [h, drop_cons hk, linesF, if_neg hs, if_pos ht, part_snoc hi hk]
theorem LInv.foreign {l : List UInt8} {W : List (List UInt8)} {i k : Nat} (h : LInv l W i k) (hk : k < l.length) (hs : l[k] ≠ 10) (ht : isT l[k] = false) : linesF [] l = none := by
  unfold LInv at *
  rw [h, drop_cons hk, linesF, if_neg hs, if_neg (by simp [ht])]; rfl
theorem LInv.done {l : List UInt8} {W : List (List UInt8)} {k : Nat} (h : LInv l W k k) (hk : k = l.length) : linesF [] l = some W := by
  subst hk
  unfold LInv at *
  rw [h, List.drop_length, linesF, if_pos (part_self _ _)]; simp
theorem LInv.short {l : List UInt8} {W : List (List UInt8)} {i k : Nat} (h : LInv l W i k) (hi : i < k) (hk : k = l.length) : linesF [] l = none := by
  subst hk
  unfold LInv at *
  rw [h, List.drop_length, linesF, if_neg (fun e => by have := (part_nil (Nat.le_of_lt hi) (Nat.le_refl _)).1 e; omega)]; rfl


/-- how long words are when they are put together -/
def wsum (xs : List (List UInt8)) : Nat := (xs.map fun x => x.length + 1).sum
theorem wsum_nil : wsum [] = 0 := rfl
theorem wsum_cons (x : List UInt8) (r : List (List UInt8)) : wsum (x :: r) = x.length + 1 + wsum r := by simp [wsum]
theorem wsum_append (a b : List (List UInt8)) : wsum (a ++ b) = wsum a + wsum b := by simp [wsum]
theorem length_le_wsum (xs : List (List UInt8)) : xs.length ≤ wsum xs := by
  induction xs with
  | nil => exact Nat.le_refl _
  | cons x r ih => rw [wsum_cons, List.length_cons]; omega
theorem wordsF_wsum (r : List UInt8) : ∀ cur, wsum (wordsF cur r) ≤ 2 * (cur.length + r.length) := by
  induction r with
  | nil =>
    intro cur
    unfold wordsF
    split
    · simp [wsum]
    · rename_i h
      have : cur.length ≠ 0 := fun e => h (List.eq_nil_of_length_eq_zero e)
      simp [wsum]; omega
  | cons c r ih =>
    intro cur
    unfold wordsF
    split
    · split
      · have := ih []; simp at this ⊢; omega
      · rename_i h
        have hc : cur.length ≠ 0 := fun e => h (List.eq_nil_of_length_eq_zero e)
        have := ih []
        rw [wsum_cons]; simp at this ⊢; omega
    · have := ih (cur ++ [c]); simp at this ⊢; omega
theorem words_wsum (l : List UInt8) : wsum (words l) ≤ 2 * l.length := by have := wordsF_wsum l []; simpa [words] using this
/-- a word: not empty, without a space -/
def Good (x : List UInt8) : Prop := x ≠ [] ∧ ∀ c ∈ x, c ≠ 32
theorem wordsF_good (r : List UInt8) : ∀ cur, (∀ c ∈ cur, c ≠ 32) → ∀ x ∈ wordsF cur r, Good x := by
  induction r with
  | nil =>
    intro cur hc x hx
    unfold wordsF at hx
    split at hx
    · cases hx
    · rename_i h
      simp at hx; subst hx; exact ⟨h, hc⟩
  | cons c r ih =>
    intro cur hc x hx
    unfold wordsF at hx
    split at hx
    · split at hx
      · exact ih [] (fun c hc => by cases hc) x hx
      · rename_i h
        rcases List.mem_cons.1 hx with rfl | hx
        · exact ⟨h, hc⟩
        · exact ih [] (fun c hc => by cases hc) x hx
    · rename_i h
      refine ih (cur ++ [c]) (fun d hd => ?_) x hx
      rcases List.mem_append.1 hd with hd | hd
      · exact hc d hd
      · simp at hd; subst hd; exact h
theorem words_good (l : List UInt8) : ∀ x ∈ words l, Good x := wordsF_good l [] (fun c hc => by cases hc)
theorem wordsF_run (x r : List UInt8) (hx : ∀ c ∈ x, c ≠ 32) : ∀ cur, wordsF cur (x ++ r) = wordsF (cur ++ x) r := by
  induction x with
  | nil => intro cur; simp
  | cons c x ih =>
    intro cur
    rw [List.cons_append, wordsF, if_neg (hx c (by simp)), ih (fun d hd => hx d (List.mem_cons_of_mem _ hd))]
    simp
theorem words_joinTail (r : List (List UInt8)) : (∀ x ∈ r, Good x) → ∀ cur, cur ≠ [] → wordsF cur (Lib.joinTail [32] r) = cur :: r := by
  induction r with
  | nil => intro _ cur hc; simp [Lib.joinTail, wordsF, hc]
  | cons y r ih =>
    intro hg cur hc
    have hy := hg y (by simp)
    have e : Lib.joinTail [32] (y :: r) = 32 :: (y ++ Lib.joinTail [32] r) := by simp [Lib.joinTail]
    rw [e, wordsF, if_pos rfl, if_neg hc, wordsF_run _ _ hy.2, List.nil_append, ih (fun x hx => hg x (List.mem_cons_of_mem _ hx)) y hy.1]
theorem words_join (xs : List (List UInt8)) (hg : ∀ x ∈ xs, Good x) : words (Lib.join xs [32]) = xs := by
  cases xs with
  | nil => rfl
  | cons x r =>
    have hx := hg x (by simp)
    unfold words
    rw [Lib.join_cons, wordsF_run _ _ hx.2, List.nil_append, words_joinTail r (fun y hy => hg y (List.mem_cons_of_mem _ hy)) x hx.1]
theorem join_length (xs : List (List UInt8)) : (Lib.join xs [32]).length ≤ wsum xs := by
  have tail : ∀ r : List (List UInt8), (Lib.joinTail [32] r).length = wsum r := by
    intro r
    induction r with
    | nil => rfl
    | cons y r ih =>
      have e : Lib.joinTail [32] (y :: r) = 32 :: (y ++ Lib.joinTail [32] r) := by simp [Lib.joinTail]
      rw [e, wsum_cons, ← ih, List.length_cons, List.length_append]; omega
  cases xs with
  | nil => exact Nat.le_refl _
  | cons x r => rw [Lib.join_cons, wsum_cons, ← tail r, List.length_append]; omega

theorem odd_bs (l : List UInt8) : ({ data := #[31, 10] } : ByteArray) ++ bs l = bs (31 :: 10 :: l) := by
  rw [← bs_of (({ data := #[31, 10] } : ByteArray) ++ bs l), ByteArray.data_append]; simp [bs]
theorem more_bs (l : List UInt8) : bs l ++ ({ data := #[120] } : ByteArray) = bs (l ++ [120]) := bs_push l 120
/-- lines with their line feeds -/
def textOf (L : List (List UInt8)) : List UInt8 := (L.map (· ++ [10])).flatten
theorem textOf_nil : textOf [] = [] := rfl
theorem textOf_snoc (L : List (List UInt8)) (x : List UInt8) : textOf (L ++ [x]) = textOf L ++ (x ++ [10]) := by simp [textOf]
theorem textOf_cons (L : List (List UInt8)) (x : List UInt8) : textOf (x :: L) = x ++ 10 :: textOf L := by simp [textOf]
def Plain (x : List UInt8) : Prop := ∀ c ∈ x, isT c = true
theorem plain_push {x : List UInt8} {r : Int} (h : Plain x) (h0 : 0 ≤ r) (h1 : r < 95) : Plain (x ++ [UInt8.ofNat (32 + r).toNat]) := by
  intro c hc
  rcases List.mem_append.1 hc with hc | hc
  · exact h c hc
  · simp only [List.mem_singleton] at hc
    subst hc
    unfold isT
    have : (UInt8.ofNat (32 + r).toNat).toNat = (32 + r).toNat := by simp; omega
    rw [this]; exact decide_eq_true (by omega)
theorem isT_10 {c : UInt8} (h : isT c = true) : c ≠ 10 := by rintro rfl; exact absurd h (by decide)
theorem linesF_run (x r : List UInt8) (hx : Plain x) : ∀ cur, linesF cur (x ++ r) = linesF (cur ++ x) r := by
  induction x with
  | nil => intro cur; simp
  | cons c x ih =>
    intro cur
    rw [List.cons_append, linesF, if_neg (isT_10 (hx c (by simp))), if_pos (hx c (by simp)), ih (fun d hd => hx d (List.mem_cons_of_mem _ hd))]
    simp
theorem linesF_text (L : List (List UInt8)) (hL : ∀ x ∈ L, Plain x) (r : List UInt8) : linesF [] (textOf L ++ r) = (linesF [] r).map (L ++ ·) := by
  induction L with
  | nil => rw [textOf_nil, List.nil_append]; cases linesF [] r <;> rfl
  | cons x L ih =>
    rw [textOf_cons, List.append_assoc, linesF_run x _ (hL x (by simp)), List.nil_append, List.cons_append, linesF, if_pos rfl, ih (fun y hy => hL y (List.mem_cons_of_mem _ hy))]
    cases linesF [] r <;> rfl
theorem lines_text (L : List (List UInt8)) (hL : ∀ x ∈ L, Plain x) (hlen : (textOf L).length ≤ 65536) : lines (textOf L) = some L := by
  have := linesF_text L hL []
  rw [List.append_nil] at this
  unfold lines; rw [if_neg (by omega), this]; simp [linesF]
theorem lines_more (L : List (List UInt8)) (hL : ∀ x ∈ L, Plain x) : lines (textOf L ++ [120]) = none := by
  unfold lines; split
  · rfl
  · rw [linesF_text L hL]; rfl
theorem lines_odd (r : List UInt8) : lines (31 :: r) = none := by
  unfold lines; split
  · rfl
  · rfl

end Go.Proofs.YthdjpmiohfaphaaGreatDoor.lex
