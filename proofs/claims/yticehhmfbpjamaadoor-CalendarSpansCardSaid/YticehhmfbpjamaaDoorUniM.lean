/- The plain facts on spans that the proofs of layer 2 use: a list of spans that do not touch is one alone that has its minutes. No program in this text. -/
import Derived.Lib.Strings
namespace Go.Proofs.YticehhmfbpjamaaDoor.uni

abbrev Sp := Int × Int
def spOk (s : Sp) : Bool := decide (0 ≤ s.1 ∧ s.1 < s.2 ∧ s.2 ≤ 16777216)
/-- minute t is in a span of l -/
def Mem (l : List Sp) (t : Int) : Prop := ∃ s ∈ l, s.1 ≤ t ∧ t < s.2
/-- ascending, and none touches another -/
def NF (l : List Sp) : Prop := l.Pairwise (fun a b => a.2 < b.1) ∧ ∀ s ∈ l, s.1 < s.2

theorem mem_nil (t : Int) : ¬ Mem [] t := by rintro ⟨s, h, _⟩; cases h
theorem mem_cons (a : Sp) (l : List Sp) (t : Int) : Mem (a :: l) t ↔ (a.1 ≤ t ∧ t < a.2) ∨ Mem l t := by
  constructor
  · rintro ⟨s, h, h1⟩
    rcases List.mem_cons.1 h with rfl | h
    · exact .inl h1
    · exact .inr ⟨s, h, h1⟩
  · rintro (h | ⟨s, h, h1⟩)
    · exact ⟨a, by simp, h⟩
    · exact ⟨s, by simp [h], h1⟩
theorem mem_append (l r : List Sp) (t : Int) : Mem (l ++ r) t ↔ Mem l t ∨ Mem r t := by
  induction l with
  | nil => simp [mem_nil]
  | cons a l ih => rw [List.cons_append, mem_cons, mem_cons, ih, or_assoc]
theorem mem_one (a : Sp) (t : Int) : Mem [a] t ↔ (a.1 ≤ t ∧ t < a.2) := by rw [mem_cons]; simp [mem_nil]
theorem nf_nil : NF [] := ⟨List.Pairwise.nil, fun s h => by cases h⟩
theorem nf_cons {a : Sp} {l : List Sp} : NF (a :: l) ↔ a.1 < a.2 ∧ (∀ b ∈ l, a.2 < b.1) ∧ NF l := by
  unfold NF
  rw [List.pairwise_cons]
  constructor
  · rintro ⟨⟨h1, h2⟩, h3⟩; exact ⟨h3 a (by simp), h1, h2, fun s hs => h3 s (by simp [hs])⟩
  · rintro ⟨h1, h2, h3, h4⟩
    refine ⟨⟨h2, h3⟩, fun s hs => ?_⟩
    rcases List.mem_cons.1 hs with rfl | hs
    · exact h1
    · exact h4 s hs
theorem nf_append {l r : List Sp} : NF (l ++ r) ↔ NF l ∧ NF r ∧ ∀ a ∈ l, ∀ b ∈ r, a.2 < b.1 := by
  unfold NF
  rw [List.pairwise_append]
  constructor
  · rintro ⟨⟨h1, h2, h3⟩, h4⟩
    exact ⟨⟨h1, fun s hs => h4 s (by simp [hs])⟩, ⟨h2, fun s hs => h4 s (by simp [hs])⟩, h3⟩
  · rintro ⟨⟨h1, h2⟩, ⟨h3, h4⟩, h5⟩
    refine ⟨⟨h1, h3, h5⟩, fun s hs => ?_⟩
    rcases List.mem_append.1 hs with hs | hs
    · exact h2 s hs
    · exact h4 s hs
theorem nf_one {a : Sp} (h : a.1 < a.2) : NF [a] := nf_cons.2 ⟨h, by simp, nf_nil⟩
theorem mem_low {a : Sp} {l : List Sp} (h : NF (a :: l)) {t : Int} (ht : Mem (a :: l) t) : a.1 ≤ t := by
  obtain ⟨h1, h2, h3⟩ := nf_cons.1 h
  rcases (mem_cons _ _ _).1 ht with ht | ⟨s, hs, ht⟩
  · exact ht.1
  · have := h2 s hs; omega
theorem mem_tail {a : Sp} {l : List Sp} (h : NF (a :: l)) (t : Int) : Mem l t ↔ Mem (a :: l) t ∧ a.2 ≤ t := by
  obtain ⟨h1, h2, h3⟩ := nf_cons.1 h
  rw [mem_cons]
  constructor
  · rintro ⟨s, hs, ht⟩
    have := h2 s hs
    exact ⟨.inr ⟨s, hs, ht⟩, by omega⟩
  · rintro ⟨ht | ht, h4⟩
    · omega
    · exact ht
theorem not_mem_end {a : Sp} {l : List Sp} (h : NF (a :: l)) : ¬ Mem (a :: l) a.2 := by
  obtain ⟨h1, h2, h3⟩ := nf_cons.1 h
  rw [mem_cons]
  rintro (h4 | ⟨s, hs, ht⟩)
  · omega
  · have := h2 s hs; omega
/-- one list alone has these minutes -/
theorem nf_unique : ∀ {l r : List Sp}, NF l → NF r → (∀ t, Mem l t ↔ Mem r t) → l = r
  | [], [], _, _, _ => rfl
  | [], b :: r, _, hr, h => absurd ((h b.1).2 ⟨b, by simp, by have := (nf_cons.1 hr).1; omega⟩) (mem_nil _)
  | a :: l, [], hl, _, h => absurd ((h a.1).1 ⟨a, by simp, by have := (nf_cons.1 hl).1; omega⟩) (mem_nil _)
  | a :: l, b :: r, hl, hr, h => by
    have a1 := (nf_cons.1 hl).1
    have b1 := (nf_cons.1 hr).1
    have e1 : a.1 = b.1 := by
      have h1 := mem_low hr ((h a.1).1 ⟨a, by simp, by omega⟩)
      have h2 := mem_low hl ((h b.1).2 ⟨b, by simp, by omega⟩)
      omega
    have e2 : a.2 = b.2 := by
      rcases Int.lt_trichotomy a.2 b.2 with h1 | h1 | h1
      · exact absurd ((h a.2).2 ⟨b, by simp, by omega⟩) (not_mem_end hl)
      · exact h1
      · exact absurd ((h b.2).1 ⟨a, by simp, by omega⟩) (not_mem_end hr)
    obtain rfl : a = b := Prod.ext e1 e2
    rw [nf_unique (nf_cons.1 hl).2.2 (nf_cons.1 hr).2.2 (fun t => by rw [mem_tail hl, mem_tail hr, h t])]

/-- u is the union of l -/
def IsUnion (l u : List Sp) : Prop := NF u ∧ ∀ t, Mem u t ↔ Mem l t
theorem IsUnion.unique {l u v : List Sp} (h : IsUnion l u) (g : IsUnion l v) : u = v := nf_unique h.1 g.1 (fun t => by rw [h.2, g.2])
theorem IsUnion.self {u : List Sp} (h : NF u) : IsUnion u u := ⟨h, fun _ => Iff.rfl⟩
theorem IsUnion.perm {l l' u : List Sp} (h : IsUnion l u) (hp : ∀ s, s ∈ l ↔ s ∈ l') : IsUnion l' u :=
  ⟨h.1, fun t => by rw [h.2]; unfold Mem; exact exists_congr fun s => and_congr_left fun _ => hp s⟩
theorem IsUnion.ends {l u : List Sp} (h : IsUnion l u) {lo hi : Int} (hl : ∀ s ∈ l, lo ≤ s.1 ∧ s.2 ≤ hi) : ∀ s ∈ u, lo ≤ s.1 ∧ s.2 ≤ hi := by
  intro s hs
  have h1 := h.1.2 s hs
  have m1 := (h.2 s.1).1 ⟨s, hs, by omega⟩
  have m2 := (h.2 (s.2 - 1)).1 ⟨s, hs, by omega⟩
  obtain ⟨x, hx, hx1⟩ := m1
  obtain ⟨y, hy, hy1⟩ := m2
  have := hl x hx
  have := hl y hy
  omega
theorem IsUnion.valid {l u : List Sp} (h : IsUnion l u) (hl : ∀ s ∈ l, spOk s = true) : ∀ s ∈ u, spOk s = true := by
  have := h.ends (lo := 0) (hi := 16777216) (fun s hs => by have := of_decide_eq_true (hl s hs); omega)
  intro s hs
  have h1 := this s hs
  have h2 := h.1.2 s hs
  exact decide_eq_true (by omega)

/-! the program's way: over a list in the order of its beginnings -/
theorem union_push {done U : List Sp} {s : Sp} (h : IsUnion done U) (hs : s.1 < s.2) (hl : ∀ u ∈ U, u.2 < s.1) : IsUnion (done ++ [s]) (U ++ [s]) := by
  refine ⟨nf_append.2 ⟨h.1, nf_one hs, fun a ha b hb => ?_⟩, fun t => by rw [mem_append, mem_append, h.2]⟩
  obtain rfl : b = s := by simpa using hb
  exact hl a ha
theorem nf_last_low {U : List Sp} {x : Sp} (h : NF (U ++ [x])) : ∀ u ∈ U, u.2 < x.1 := fun u hu => (nf_append.1 h).2.2 u hu x (by simp)
theorem union_merge {done U : List Sp} {x s : Sp} (h : IsUnion done (U ++ [x])) (hs : s.1 < s.2) (h1 : x.1 ≤ s.1) (h2 : s.1 ≤ x.2) : IsUnion (done ++ [s]) (U ++ [(x.1, max x.2 s.2)]) := by
  have hx := h.1.2 x (by simp)
  obtain ⟨n1, n2, n3⟩ := nf_append.1 h.1
  refine ⟨nf_append.2 ⟨n1, nf_one (by show x.1 < max x.2 s.2; omega), fun a ha b hb => ?_⟩, fun t => ?_⟩
  · obtain rfl : b = (x.1, max x.2 s.2) := by simpa using hb
    exact nf_last_low h.1 a ha
  · rw [mem_append, mem_append, ← h.2, mem_append, mem_one, mem_one, mem_one, or_assoc]
    refine or_congr_right ?_
    show (x.1 ≤ t ∧ t < max x.2 s.2) ↔ _
    omega
theorem union_first {s : Sp} (hs : s.1 < s.2) : IsUnion [s] [s] := IsUnion.self (nf_one hs)

/-! the reference's way: each span takes those that it touches in -/
structure RInv (out : List Sp) (k : Nat) (s0 : Sp) (rest : List Sp) (s : Sp) : Prop where
  sub : rest.Sublist (out.take k)
  mem : ∀ t, (Mem rest t ∨ (s.1 ≤ t ∧ t < s.2)) ↔ (Mem (out.take k) t ∨ (s0.1 ≤ t ∧ t < s0.2))
  off : ∀ r ∈ rest, r.2 < s.1 ∨ s.2 < r.1
  ok : s.1 < s.2
theorem RInv.start (out : List Sp) {s : Sp} (h : s.1 < s.2) : RInv out 0 s [] s := ⟨by simp, fun t => by simp, (fun r hr => by cases hr), h⟩
theorem take_next {out : List Sp} {k : Nat} (h : k < out.length) : out.take (k + 1) = out.take k ++ [out[k]] := by rw [List.take_succ_eq_append_getElem h]
theorem nf_before {out : List Sp} (hn : NF out) {k : Nat} (h : k < out.length) : ∀ r ∈ out.take k, r.2 < (out[k]).1 := by
  have : NF (out.take (k + 1)) := by
    have e : out = out.take (k + 1) ++ out.drop (k + 1) := (List.take_append_drop _ _).symm
    rw [e] at hn; exact (nf_append.1 hn).1
  rw [take_next h] at this
  exact nf_last_low this
theorem RInv.keep {out rest : List Sp} {k : Nat} {s0 s : Sp} (h : RInv out k s0 rest s) (hk : k < out.length) (ho : (out[k]).2 < s.1 ∨ s.2 < (out[k]).1) : RInv out (k + 1) s0 (rest ++ [out[k]]) s where
  sub := by rw [take_next hk]; exact h.sub.append (List.Sublist.refl _)
  mem := fun t => by
    rw [take_next hk, mem_append, mem_append]
    have := h.mem t
    constructor
    · rintro ((h1 | h1) | h1)
      · rcases this.1 (.inl h1) with h2 | h2
        · exact .inl (.inl h2)
        · exact .inr h2
      · exact .inl (.inr h1)
      · rcases this.1 (.inr h1) with h2 | h2
        · exact .inl (.inl h2)
        · exact .inr h2
    · rintro ((h1 | h1) | h1)
      · rcases this.2 (.inl h1) with h2 | h2
        · exact .inl (.inl h2)
        · exact .inr h2
      · exact .inl (.inr h1)
      · rcases this.2 (.inr h1) with h2 | h2
        · exact .inl (.inl h2)
        · exact .inr h2
  off := fun r hr => by
    rcases List.mem_append.1 hr with hr | hr
    · exact h.off r hr
    · obtain rfl : r = out[k] := by simpa using hr
      exact ho
  ok := h.ok
theorem RInv.take {out rest : List Sp} {k : Nat} {s0 s : Sp} (h : RInv out k s0 rest s) (hn : NF out) (hk : k < out.length) (h1 : s.1 ≤ (out[k]).2) (h2 : (out[k]).1 ≤ s.2) :
    RInv out (k + 1) s0 rest (min s.1 (out[k]).1, max s.2 (out[k]).2) where
  sub := by rw [take_next hk]; exact h.sub.trans (List.sublist_append_left _ _)
  mem := fun t => by
    rw [take_next hk, mem_append, mem_one]
    have := h.mem t
    have ok := h.ok
    have oo := hn.2 _ (List.getElem_mem hk)
    have e : ((min s.1 (out[k]).1, max s.2 (out[k]).2).1 ≤ t ∧ t < (min s.1 (out[k]).1, max s.2 (out[k]).2).2) ↔ ((s.1 ≤ t ∧ t < s.2) ∨ ((out[k]).1 ≤ t ∧ t < (out[k]).2)) := by
      show (min s.1 (out[k]).1 ≤ t ∧ t < max s.2 (out[k]).2) ↔ _
      omega
    rw [e]
    constructor
    · rintro (h1 | h1 | h1)
      · rcases this.1 (.inl h1) with h2 | h2
        · exact .inl (.inl h2)
        · exact .inr h2
      · rcases this.1 (.inr h1) with h2 | h2
        · exact .inl (.inl h2)
        · exact .inr h2
      · exact .inl (.inr h1)
    · rintro ((h1 | h1) | h1)
      · rcases this.2 (.inl h1) with h2 | h2
        · exact .inl h2
        · exact .inr (.inl h2)
      · exact .inr (.inr h1)
      · rcases this.2 (.inr h1) with h2 | h2
        · exact .inl h2
        · exact .inr (.inl h2)
  off := fun r hr => by
    have hb := nf_before hn hk r (h.sub.subset hr)
    have hr2 := hn.2 r (List.mem_of_mem_take (h.sub.subset hr))
    show r.2 < min s.1 (out[k]).1 ∨ max s.2 (out[k]).2 < r.1
    have := h.off r hr
    omega
  ok := by show min s.1 (out[k]).1 < max s.2 (out[k]).2; have := h.ok; omega
/-- where the span is put in -/
theorem RInv.done {l out rest : List Sp} {s0 s : Sp} {at_ : Nat} (h : RInv out out.length s0 rest s) (hu : IsUnion l out) (hlen : at_ ≤ rest.length) (hb : ∀ r ∈ rest.take at_, r.1 < s.1) (hge : ∀ (i : at_ < rest.length), s.1 ≤ (rest[at_]).1) :
    IsUnion (l ++ [s0]) (rest.take at_ ++ s :: rest.drop at_) := by
  have hsub : rest.Sublist out := by have := h.sub; rwa [List.take_length] at this
  have hnr : NF rest := ⟨hu.1.1.sublist hsub, fun r hr => hu.1.2 r (hsub.subset hr)⟩
  have e : rest = rest.take at_ ++ rest.drop at_ := (List.take_append_drop _ _).symm
  have hnr' := hnr
  rw [e] at hnr'
  obtain ⟨n1, n2, n3⟩ := nf_append.1 hnr'
  have ok := h.ok
  have after : ∀ r ∈ rest.drop at_, s.2 < r.1 := by
    intro r hr
    have hr0 : r ∈ rest := List.mem_of_mem_drop hr
    have h1 : s.1 ≤ r.1 := by
      have hi : at_ < rest.length := by
        rcases Nat.lt_or_ge at_ rest.length with h | h
        · exact h
        · rw [List.drop_eq_nil_of_le h] at hr; cases hr
      have h2 := hge hi
      rw [List.drop_eq_getElem_cons hi] at hr n2
      rcases List.mem_cons.1 hr with rfl | hr
      · exact h2
      · have h3 := (nf_cons.1 n2).2.1 r hr
        have h4 := (nf_cons.1 n2).1
        omega
    have := h.off r hr0
    have := hnr.2 r hr0
    omega
  have before : ∀ r ∈ rest.take at_, r.2 < s.1 := by
    intro r hr
    have hr0 : r ∈ rest := List.mem_of_mem_take hr
    have := hb r hr
    have := h.off r hr0
    omega
  refine ⟨nf_append.2 ⟨n1, nf_cons.2 ⟨ok, after, n2⟩, fun a ha b hb => ?_⟩, fun t => ?_⟩
  · rcases List.mem_cons.1 hb with rfl | hb
    · exact before a ha
    · exact n3 a ha b hb
  · have hm := h.mem t
    rw [List.take_length, hu.2] at hm
    rw [mem_append, mem_cons, mem_append, mem_one, ← hm]
    rw [e, mem_append]
    simp only [← e]
    constructor
    · rintro (h1 | h1 | h1)
      · exact .inl (.inl h1)
      · exact .inr h1
      · exact .inl (.inr h1)
    · rintro ((h1 | h1) | h1)
      · exact .inl h1
      · exact .inr (.inr h1)
      · exact .inr (.inl h1)

/-! how many minutes -/
def total (l : List Sp) : Int := (l.map fun s => s.2 - s.1).sum
theorem total_nil : total [] = 0 := rfl
theorem total_cons (a : Sp) (l : List Sp) : total (a :: l) = (a.2 - a.1) + total l := by simp [total]
theorem total_snoc (l : List Sp) (a : Sp) : total (l ++ [a]) = total l + (a.2 - a.1) := by simp [total]
theorem total_ge {l : List Sp} (h : ∀ s ∈ l, s.1 < s.2) : 0 ≤ total l := by
  induction l with
  | nil => exact Int.le_refl _
  | cons a l ih =>
    rw [total_cons]
    have := h a (by simp)
    have := ih (fun s hs => h s (by simp [hs]))
    omega
theorem total_le : ∀ {l : List Sp} {lo hi : Int}, NF l → (∀ s ∈ l, lo ≤ s.1 ∧ s.2 ≤ hi) → lo ≤ hi → total l ≤ hi - lo
  | [], _, _, _, _, h => by rw [total_nil]; omega
  | a :: l, lo, hi, hn, hb, _ => by
    obtain ⟨h1, h2, h3⟩ := nf_cons.1 hn
    have ha := hb a (by simp)
    have := total_le (lo := a.2) (hi := hi) h3 (fun s hs => ⟨by have := h2 s hs; omega, (hb s (by simp [hs])).2⟩) (by omega)
    rw [total_cons]; omega
theorem nf_take {l : List Sp} (h : NF l) (k : Nat) : NF (l.take k) := by
  rw [← List.take_append_drop k l] at h; exact (nf_append.1 h).1
theorem total_take_le {l : List Sp} (h : NF l) (hb : ∀ s ∈ l, spOk s = true) (k : Nat) : 0 ≤ total (l.take k) ∧ total (l.take k) ≤ 16777216 := by
  have := total_le (l := l.take k) (lo := 0) (hi := 16777216) (nf_take h k) (fun s hs => by have := of_decide_eq_true (hb s (List.mem_of_mem_take hs)); omega) (by decide)
  exact ⟨total_ge (fun s hs => h.2 s (List.mem_of_mem_take hs)), by omega⟩

/-! counting minute by minute -/
/-- how many of the first n minutes -/
def cnt (p : Nat → Bool) (n : Nat) : Int := ((List.range n).filter p).length
theorem cnt_zero (p : Nat → Bool) : cnt p 0 = 0 := rfl
theorem cnt_succ (p : Nat → Bool) (n : Nat) : cnt p (n + 1) = cnt p n + if p n then 1 else 0 := by
  unfold cnt
  rw [List.range_succ, List.filter_append]
  by_cases h : p n = true
  · simp [h]
  · simp [h]
theorem cnt_le (p : Nat → Bool) (n : Nat) : 0 ≤ cnt p n ∧ cnt p n ≤ n := by
  unfold cnt
  have := List.length_filter_le p (List.range n)
  rw [List.length_range] at this
  omega
theorem cnt_span (a b : Int) (h0 : 0 ≤ a) (h : a ≤ b) (n : Nat) : cnt (fun t => decide (a ≤ (t : Int) ∧ (t : Int) < b)) n = min b n - min a n := by
  induction n with
  | zero => rw [cnt_zero]; omega
  | succ n ih =>
    rw [cnt_succ, ih]
    by_cases h1 : a ≤ (n : Int) ∧ (n : Int) < b
    · rw [decide_eq_true h1, if_pos rfl]; omega
    · rw [decide_eq_false h1, if_neg (by simp)]; omega
/-- counted, the minutes of either are those of both less those that both have -/
theorem cnt_either (p q : Nat → Bool) (n : Nat) : cnt (fun t => p t || q t) n = cnt p n + cnt q n - cnt (fun t => p t && q t) n := by
  induction n with
  | zero => simp [cnt_zero]
  | succ n ih =>
    rw [cnt_succ, cnt_succ, cnt_succ, cnt_succ, ih]
    cases p n <;> cases q n <;> simp <;> omega
theorem cnt_congr {p q : Nat → Bool} {n : Nat} (h : ∀ t, t < n → p t = q t) : cnt p n = cnt q n := by
  induction n with
  | zero => rfl
  | succ n ih => rw [cnt_succ, cnt_succ, ih (fun t ht => h t (by omega)), h n (by omega)]
/-- is minute t in a span of l? -/
def memB (l : List Sp) (t : Int) : Bool := l.any fun s => decide (s.1 ≤ t ∧ t < s.2)
theorem memB_iff (l : List Sp) (t : Int) : memB l t = true ↔ Mem l t := by
  unfold memB Mem; rw [List.any_eq_true]; exact exists_congr fun s => and_congr_right fun _ => decide_eq_true_iff
theorem memB_congr {l r : List Sp} {t : Int} (h : Mem l t ↔ Mem r t) : memB l t = memB r t := by
  rw [Bool.eq_iff_iff, memB_iff, memB_iff, h]
theorem cnt_total : ∀ {l : List Sp} (n : Nat), NF l → (∀ s ∈ l, 0 ≤ s.1 ∧ s.2 ≤ n) → cnt (fun t => memB l t) n = total l
  | [], n, _, _ => by
    rw [total_nil]
    exact (cnt_congr (q := fun _ => false) (fun t _ => rfl)).trans (by unfold cnt; simp)
  | a :: l, n, hn, hb => by
    obtain ⟨h1, h2, h3⟩ := nf_cons.1 hn
    have ha := hb a (by simp)
    have ih := cnt_total n h3 (fun s hs => hb s (by simp [hs]))
    have e := cnt_either (fun t => decide (a.1 ≤ (t : Int) ∧ (t : Int) < a.2)) (fun t => memB l t) n
    have z : cnt (fun t => decide (a.1 ≤ (t : Int) ∧ (t : Int) < a.2) && memB l t) n = 0 := by
      rw [cnt_congr (q := fun _ => false) (fun t _ => ?_)]
      · unfold cnt; simp
      · rw [Bool.and_eq_false_iff]
        by_cases h4 : a.1 ≤ (t : Int) ∧ (t : Int) < a.2
        · right
          rw [Bool.eq_false_iff, Ne, memB_iff]
          rintro ⟨s, hs, h5⟩
          have := h2 s hs
          omega
        · left; exact decide_eq_false h4
    refine (cnt_congr (q := fun t => decide (a.1 ≤ (t : Int) ∧ (t : Int) < a.2) || memB l t) (fun t _ => rfl)).trans ?_
    rw [e, z, ih, cnt_span _ _ ha.1 (by omega), total_cons]
    omega
end Go.Proofs.YticehhmfbpjamaaDoor.uni
