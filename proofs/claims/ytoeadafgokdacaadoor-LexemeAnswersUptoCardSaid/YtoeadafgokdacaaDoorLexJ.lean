/- Plain facts on words and lines: what is joined is read as it was; the walk of Join. Conditions of the walk: the slice is the call's own, the joined text is of at most 2^47 bytes. -/
import Derived.Test.YtoeadafgokdacaaDoorLexL
import Derived.Test.YtoeadafgokdacaaDoorShelf
import Derived.Lib.Join
namespace Go.Proofs.YtoeadafgokdacaaDoor.lex
open Go.RowKit strs

/-- how long words are when they are put together -/
def wsum (xs : List (List UInt8)) : Nat := (xs.map fun x => x.length + 1).sum
theorem wsum_nil : wsum [] = 0 := rfl
theorem wsum_cons (x : List UInt8) (r : List (List UInt8)) : wsum (x :: r) = x.length + 1 + wsum r := by simp [wsum]
theorem wsum_append (a b : List (List UInt8)) : wsum (a ++ b) = wsum a + wsum b := by simp [wsum]
theorem length_le_wsum (xs : List (List UInt8)) : xs.length ≤ wsum xs := by
  induction xs with
  | nil => exact Nat.le_refl _
  | cons x r ih => rw [wsum_cons, List.length_cons]; omega
theorem wordsF_wsum (r : List UInt8) : ∀ cur, wsum (wordsF cur r) ≤ 2 * (cur.length + r.length) := by
  induction r with
  | nil =>
    intro cur
    unfold wordsF
    split
    · simp [wsum]
    · rename_i h
      have : cur.length ≠ 0 := fun e => h (List.eq_nil_of_length_eq_zero e)
      simp [wsum]; omega
  | cons c r ih =>
    intro cur
    unfold wordsF
    split
    · split
      · have := ih []; simp at this ⊢; omega
      · rename_i h
        have hc : cur.length ≠ 0 := fun e => h (List.eq_nil_of_length_eq_zero e)
        have := ih []
        rw [wsum_cons]; simp at this ⊢; omega
    · have := ih (cur ++ [c]); simp at this ⊢; omega
theorem words_wsum (l : List UInt8) : wsum (words l) ≤ 2 * l.length := by have := wordsF_wsum l []; simpa [words] using this
/-- a word: not empty, without a space -/
def Good (x : List UInt8) : Prop := x ≠ [] ∧ ∀ c ∈ x, c ≠ 32
theorem wordsF_good (r : List UInt8) : ∀ cur, (∀ c ∈ cur, c ≠ 32) → ∀ x ∈ wordsF cur r, Good x := by
  induction r with
  | nil =>
    intro cur hc x hx
    unfold wordsF at hx
    split at hx
    · cases hx
    · rename_i h
      simp at hx; subst hx; exact ⟨h, hc⟩
  | cons c r ih =>
    intro cur hc x hx
    unfold wordsF at hx
    split at hx
    · split at hx
      · exact ih [] (fun c hc => by cases hc) x hx
      · rename_i h
        rcases List.mem_cons.1 hx with rfl | hx
        · exact ⟨h, hc⟩
        · exact ih [] (fun c hc => by cases hc) x hx
    · rename_i h
      refine ih (cur ++ [c]) (fun d hd => ?_) x hx
      rcases List.mem_append.1 hd with hd | hd
      · exact hc d hd
      · simp at hd; subst hd; exact h
theorem words_good (l : List UInt8) : ∀ x ∈ words l, Good x := wordsF_good l [] (fun c hc => by cases hc)
theorem wordsF_run (x r : List UInt8) (hx : ∀ c ∈ x, c ≠ 32) : ∀ cur, wordsF cur (x ++ r) = wordsF (cur ++ x) r := by
  induction x with
  | nil => intro cur; simp
  | cons c x ih =>
    intro cur
    rw [List.cons_append, wordsF, if_neg (hx c (by simp)), ih (fun d hd => hx d (List.mem_cons_of_mem _ hd))]
    simp
theorem words_joinTail (r : List (List UInt8)) : (∀ x ∈ r, Good x) → ∀ cur, cur ≠ [] → wordsF cur (Lib.joinTail [32] r) = cur :: r := by
  induction r with
  | nil => intro _ cur hc; simp [Lib.joinTail, wordsF, hc]
  | cons y r ih =>
    intro hg cur hc
    have hy := hg y (by simp)
    have e : Lib.joinTail [32] (y :: r) = 32 :: (y ++ Lib.joinTail [32] r) := by simp [Lib.joinTail]
    rw [e, wordsF, if_pos rfl, if_neg hc, wordsF_run _ _ hy.2, List.nil_append, ih (fun x hx => hg x (List.mem_cons_of_mem _ hx)) y hy.1]
theorem words_join (xs : List (List UInt8)) (hg : ∀ x ∈ xs, Good x) : words (Lib.join xs [32]) = xs := by
  cases xs with
  | nil => rfl
  | cons x r =>
    have hx := hg x (by simp)
    unfold words
    rw [Lib.join_cons, wordsF_run _ _ hx.2, List.nil_append, words_joinTail r (fun y hy => hg y (List.mem_cons_of_mem _ hy)) x hx.1]
theorem join_length (xs : List (List UInt8)) : (Lib.join xs [32]).length ≤ wsum xs := by
  have tail : ∀ r : List (List UInt8), (Lib.joinTail [32] r).length = wsum r := by
    intro r
    induction r with
    | nil => rfl
    | cons y r ih =>
      have e : Lib.joinTail [32] (y :: r) = 32 :: (y ++ Lib.joinTail [32] r) := by simp [Lib.joinTail]
      rw [e, wsum_cons, ← ih, List.length_cons, List.length_append]; omega
  cases xs with
  | nil => exact Nat.le_refl _
  | cons x r => rw [Lib.join_cons, wsum_cons, ← tail r, List.length_append]; omega

theorem odd_bs (l : List UInt8) : ({ data := #[31, 10] } : ByteArray) ++ bs l = bs (31 :: 10 :: l) := by
  rw [← bs_of (({ data := #[31, 10] } : ByteArray) ++ bs l), ByteArray.data_append]; simp [bs]
theorem more_bs (l : List UInt8) : bs l ++ ({ data := #[120] } : ByteArray) = bs (l ++ [120]) := bs_push l 120
/-- lines with their line feeds -/
def textOf (L : List (List UInt8)) : List UInt8 := (L.map (· ++ [10])).flatten
theorem textOf_nil : textOf [] = [] := rfl
theorem textOf_snoc (L : List (List UInt8)) (x : List UInt8) : textOf (L ++ [x]) = textOf L ++ (x ++ [10]) := by simp [textOf]
theorem textOf_cons (L : List (List UInt8)) (x : List UInt8) : textOf (x :: L) = x ++ 10 :: textOf L := by simp [textOf]
def Plain (x : List UInt8) : Prop := ∀ c ∈ x, isT c = true
theorem plain_push {x : List UInt8} {r : Int} (h : Plain x) (h0 : 0 ≤ r) (h1 : r < 95) : Plain (x ++ [UInt8.ofNat (32 + r).toNat]) := by
  intro c hc
  rcases List.mem_append.1 hc with hc | hc
  · exact h c hc
  · simp only [List.mem_singleton] at hc
    subst hc
    unfold isT
    have : (UInt8.ofNat (32 + r).toNat).toNat = (32 + r).toNat := by simp; omega
    rw [this]; exact decide_eq_true (by omega)
theorem isT_10 {c : UInt8} (h : isT c = true) : c ≠ 10 := by rintro rfl; exact absurd h (by decide)
theorem linesF_run (x r : List UInt8) (hx : Plain x) : ∀ cur, linesF cur (x ++ r) = linesF (cur ++ x) r := by
  induction x with
  | nil => intro cur; simp
  | cons c x ih =>
    intro cur
    rw [List.cons_append, linesF, if_neg (isT_10 (hx c (by simp))), if_pos (hx c (by simp)), ih (fun d hd => hx d (List.mem_cons_of_mem _ hd))]
    simp
theorem linesF_text (L : List (List UInt8)) (hL : ∀ x ∈ L, Plain x) (r : List UInt8) : linesF [] (textOf L ++ r) = (linesF [] r).map (L ++ ·) := by
  induction L with
  | nil => rw [textOf_nil, List.nil_append]; cases linesF [] r <;> rfl
  | cons x L ih =>
    rw [textOf_cons, List.append_assoc, linesF_run x _ (hL x (by simp)), List.nil_append, List.cons_append, linesF, if_pos rfl, ih (fun y hy => hL y (List.mem_cons_of_mem _ hy))]
    cases linesF [] r <;> rfl
theorem lines_text (L : List (List UInt8)) (hL : ∀ x ∈ L, Plain x) (hlen : (textOf L).length ≤ 65536) : lines (textOf L) = some L := by
  have := linesF_text L hL []
  rw [List.append_nil] at this
  unfold lines; rw [if_neg (by omega), this]; simp [linesF]
theorem lines_more (L : List (List UInt8)) (hL : ∀ x ∈ L, Plain x) : lines (textOf L ++ [120]) = none := by
  unfold lines; split
  · rfl
  · rw [linesF_text L hL]; rfl
theorem lines_odd (r : List UInt8) : lines (31 :: r) = none := by
  unfold lines; split
  · rfl
  · rfl

theorem lines_call_more (L : List (List UInt8)) (hL : ∀ x ∈ L, Plain x) (hl : (textOf L).length ≤ 1000) (w : World) (h : HasClasses w) :
    Calls Tryd.prog 9 #[.string (bs (textOf L) ++ { data := #[120] })] w (LinesPost none w) :=
  lines_eq _ _ (more_bs _) none (lines_more L hL) w h (by simp; omega)
theorem lines_call_odd (L : List (List UInt8)) (hl : (textOf L).length ≤ 1000) (w : World) (h : HasClasses w) :
    Calls Tryd.prog 9 #[.string ({ data := #[31, 10] } ++ bs (textOf L))] w (LinesPost none w) :=
  lines_eq _ _ (odd_bs _) none (lines_odd _) w h (by simp; omega)

set_option maxRecDepth 100000 in
set_option maxHeartbeats 400000 in
theorem join_any {base : Nat} {v : Value} {xs : List (List UInt8)} {w : World} (h : StrsAt w base v xs) (hlen : wsum xs ≤ 140737488355328) :
    Calls Tryd.prog 20 #[v] w fun e w' => e = .returned (.string (bs (Lib.join xs [32]))) ∧ Below w.heap.size w w' := by
  rcases h.shape with ⟨rfl, rfl⟩ | ⟨g, c, rfl, _, hg, hn, hm, hc⟩
  · have c1 := Lib.hid (Tryd.strings_Join_none none 0 ⟨#[32]⟩ w)
    go_enter Tryd.func20, Tryd.ntmps20
    go_wp2_with fail
    refine c1.out.mono ?_; rintro e w' ⟨rfl, rfl⟩
    go_wp2
    go_ret
    exact ⟨rfl, Below.refl _ _⟩
  · have e : ((xs.map bs).map (·.data.toList)) = xs := by rw [List.map_map]; exact (List.map_congr_left (fun x _ => bs_data x)).trans (List.map_id _)
    have c1 := Tryd.strings_Join g 0 c (xs.map bs) ⟨#[32]⟩ w (fun j x hx => by
      rw [List.getElem?_map] at hx
      obtain ⟨y, hy, rfl⟩ := Option.map_eq_some_iff.1 hx
      obtain ⟨hj, rfl⟩ := List.getElem?_eq_some_iff.1 hy
      rw [Nat.zero_add]; exact hc j hj) hg (by have := length_le_wsum xs; simp; omega) (by simpa using hn) (by rw [e]; have := join_length xs; exact Nat.le_trans this hlen)
    rw [e, List.length_map] at c1
    have C1 := Lib.hid c1
    clear c1 e hc
    go_enter Tryd.func20, Tryd.ntmps20
    go_wp2_with fail
    refine C1.out.mono ?_; rintro e w' ⟨rfl, hb⟩
    go_wp2
    go_ret
    exact ⟨rfl, hb⟩
end Go.Proofs.YtoeadafgokdacaaDoor.lex
