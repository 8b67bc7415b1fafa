/- The plain facts on parts and colours that the proofs of layer 7 use: least nodes, the colours of parts, what closing a device changes, the reference's way to the least nodes. No program in this text. -/
import Derived.Test.YtoeojhabhnoojaaDoorNetM
import Derived.Test.YtoeojhabhnoojaaDoorMkM
namespace Go.Proofs.YtoeojhabhnoojaaDoor.col
open net msk

/-! parts -/
/-- the parts of two nodes made one -/
def mrg (f : Nat → Nat) (a b v : Nat) : Nat := if f v = max (f a) (f b) then min (f a) (f b) else f v
def dK (ds : List Dv) (i : Nat) : Int := (ds.getD i default).ki
def dA (ds : List Dv) (i : Nat) : Nat := (ds.getD i default).a.toNat
def dB (ds : List Dv) (i : Nat) : Nat := (ds.getD i default).b.toNat
/-- device i is closed and joins -/
def edge (ds : List Dv) (S : List Int) (i : Nat) : Bool := decide (at0 S i = 2) && joinB (dK ds i)
theorem edge_iff {ds : List Dv} {S : List Int} {i : Nat} : edge ds S i = true ↔ at0 S i = 2 ∧ joinB (dK ds i) = true := by
  unfold edge; rw [Bool.and_eq_true, decide_eq_true_iff]
/-- the least nodes behind k devices -/
def ptK (ds : List Dv) (S : List Int) : Nat → Nat → Nat
  | 0, v => v
  | k + 1, v => if edge ds S k = true then mrg (ptK ds S k) (dA ds k) (dB ds k) v else ptK ds S k v
def pt (ds : List Dv) (S : List Int) (v : Nat) : Nat := ptK ds S ds.length v
/-- what makes p the least nodes over a set of devices -/
structure IsPt (E : Nat → Prop) (A B : Nat → Nat) (p : Nat → Nat) : Prop where
  low : ∀ v, p v ≤ v
  edge : ∀ i, E i → p (A i) = p (B i)
  const : ∀ g : Nat → Nat, (∀ i, E i → g (A i) = g (B i)) → ∀ v, g (p v) = g v
theorem IsPt.idem {E : Nat → Prop} {A B p : Nat → Nat} (h : IsPt E A B p) (v : Nat) : p (p v) = p v := h.const p h.edge v
theorem IsPt.le {E F : Nat → Prop} {A B p q : Nat → Nat} (h : IsPt E A B p) (k : IsPt F A B q) (hs : ∀ i, E i → F i) (v : Nat) : q v ≤ p v := by
  have h1 := h.const q (fun i hi => k.edge i (hs i hi)) v
  have h2 := k.low (p v)
  omega
theorem IsPt.fine {E F : Nat → Prop} {A B p q : Nat → Nat} (h : IsPt E A B p) (k : IsPt F A B q) (hs : ∀ i, E i → F i) {u v : Nat} (e : p u = p v) : q u = q v := by
  have h1 := h.const q (fun i hi => k.edge i (hs i hi)) u
  have h2 := h.const q (fun i hi => k.edge i (hs i hi)) v
  rw [← h1, ← h2, e]
theorem IsPt.one {E F : Nat → Prop} {A B p q : Nat → Nat} (h : IsPt E A B p) (k : IsPt F A B q) (hs : ∀ i, E i ↔ F i) (v : Nat) : p v = q v := by
  have := h.le k (fun i hi => (hs i).1 hi) v
  have := k.le h (fun i hi => (hs i).2 hi) v
  omega
theorem mrg_cases (f : Nat → Nat) (a b v : Nat) : mrg f a b v = f v ∧ f v ≠ max (f a) (f b) ∨ f v = max (f a) (f b) ∧ mrg f a b v = min (f a) (f b) := by
  unfold mrg
  by_cases e : f v = max (f a) (f b)
  · right; rw [if_pos e]; exact ⟨e, rfl⟩
  · left; rw [if_neg e]; exact ⟨rfl, e⟩
theorem mrg_ends (f : Nat → Nat) (a b : Nat) : mrg f a b a = min (f a) (f b) ∧ mrg f a b b = min (f a) (f b) := by
  have h1 := mrg_cases f a b a
  have h2 := mrg_cases f a b b
  omega
theorem mrg_same {f : Nat → Nat} {a b v : Nat} (h : f a = f b) : mrg f a b v = f v := by
  have := mrg_cases f a b v
  omega
theorem IsPt.mrg {E : Nat → Prop} {A B p : Nat → Nat} (h : IsPt E A B p) (j : Nat) : IsPt (fun i => E i ∨ i = j) A B (mrg p (A j) (B j)) := by
  refine ⟨fun v => ?_, fun i hi => ?_, fun g hg v => ?_⟩
  · have := h.low v
    have := mrg_cases p (A j) (B j) v
    omega
  · rcases hi with hi | rfl
    · have := h.edge i hi
      unfold col.mrg
      rw [this]
    · obtain ⟨h1, h2⟩ := mrg_ends p (A i) (B i)
      rw [h1, h2]
  · have hc := h.const g (fun i hi => hg i (.inl hi))
    have hj := hg j (.inr rfl)
    have e1 := hc (A j)
    have e2 := hc (B j)
    rcases mrg_cases p (A j) (B j) v with ⟨h1, _⟩ | ⟨h1, h2⟩
    · rw [h1]; exact hc v
    · have e3 := hc v
      rw [h1] at e3
      rw [h2]
      rcases Nat.le_total (p (A j)) (p (B j)) with hl | hl
      · rw [Nat.min_eq_left hl, e1, hj, ← e2, ← e3, Nat.max_eq_right hl]
      · rw [Nat.min_eq_right hl, e2, ← hj, ← e1, ← e3, Nat.max_eq_left hl]
theorem IsPt.of {E F : Nat → Prop} {A B p : Nat → Nat} (h : IsPt E A B p) (hs : ∀ i, E i ↔ F i) : IsPt F A B p :=
  ⟨h.low, fun i hi => h.edge i ((hs i).2 hi), fun g hg v => h.const g (fun i hi => hg i ((hs i).1 hi)) v⟩
theorem ptK_is (ds : List Dv) (S : List Int) (k : Nat) : IsPt (fun i => i < k ∧ edge ds S i = true) (dA ds) (dB ds) (ptK ds S k) := by
  induction k with
  | zero => exact ⟨fun v => Nat.le_refl _, fun i hi => absurd hi.1 (Nat.not_lt_zero i), fun g _ v => rfl⟩
  | succ k ih =>
    by_cases e : edge ds S k = true
    · have e2 : ptK ds S (k + 1) = mrg (ptK ds S k) (dA ds k) (dB ds k) := by funext v; rw [ptK, if_pos e]
      rw [e2]
      refine (ih.mrg k).of (fun i => ?_)
      constructor
      · rintro (h | rfl)
        · exact ⟨by omega, h.2⟩
        · exact ⟨by omega, e⟩
      · rintro ⟨h1, h2⟩
        by_cases hi : i = k
        · exact .inr hi
        · exact .inl ⟨by omega, h2⟩
    · have e2 : ptK ds S (k + 1) = ptK ds S k := by funext v; rw [ptK, if_neg e]
      rw [e2]
      refine ih.of (fun i => ?_)
      constructor
      · rintro ⟨h1, h2⟩; exact ⟨by omega, h2⟩
      · rintro ⟨h1, h2⟩
        by_cases hi : i = k
        · subst hi; exact absurd h2 e
        · exact ⟨by omega, h2⟩
theorem pt_is (ds : List Dv) (S : List Int) : IsPt (fun i => i < ds.length ∧ edge ds S i = true) (dA ds) (dB ds) (pt ds S) := ptK_is ds S ds.length
theorem pt_le (ds : List Dv) (S : List Int) (v : Nat) : pt ds S v ≤ v := (pt_is ds S).low v
theorem pt_idem (ds : List Dv) (S : List Int) (v : Nat) : pt ds S (pt ds S v) = pt ds S v := (pt_is ds S).idem v
theorem ptK_le (ds : List Dv) (S : List Int) (k v : Nat) : ptK ds S k v ≤ v := (ptK_is ds S k).low v
theorem ptK_idem (ds : List Dv) (S : List Int) (k v : Nat) : ptK ds S k (ptK ds S k v) = ptK ds S k v := (ptK_is ds S k).idem v

/-! colours -/
def giv (k : Int) : Int := if k = 5 ∨ k = 6 then 1 else if k = 4 then 2 else 0
def orC (x y : Int) : Int := if x = y then x else if y = 0 then x else if x = 0 then y else 3
def b1 (x : Int) : Bool := decide (x = 1 ∨ x = 3)
def b2 (x : Int) : Bool := decide (x = 2 ∨ x = 3)
theorem giv_in (k : Int) : 0 ≤ giv k ∧ giv k ≤ 3 := by unfold giv; repeat (first | omega | split)
theorem orC_in {x y : Int} (h : 0 ≤ x ∧ x ≤ 3) (k : 0 ≤ y ∧ y ≤ 3) : 0 ≤ orC x y ∧ orC x y ≤ 3 := by unfold orC; repeat (first | omega | split)
theorem four {x : Int} (h : 0 ≤ x ∧ x ≤ 3) : x = 0 ∨ x = 1 ∨ x = 2 ∨ x = 3 := by omega
theorem b1_or {x y : Int} (h : 0 ≤ x ∧ x ≤ 3) (k : 0 ≤ y ∧ y ≤ 3) : b1 (orC x y) = (b1 x || b1 y) := by
  rcases four h with rfl | rfl | rfl | rfl <;> rcases four k with rfl | rfl | rfl | rfl <;> decide
theorem b2_or {x y : Int} (h : 0 ≤ x ∧ x ≤ 3) (k : 0 ≤ y ∧ y ≤ 3) : b2 (orC x y) = (b2 x || b2 y) := by
  rcases four h with rfl | rfl | rfl | rfl <;> rcases four k with rfl | rfl | rfl | rfl <;> decide
theorem two_bits {x y : Int} (h : 0 ≤ x ∧ x ≤ 3) (k : 0 ≤ y ∧ y ≤ 3) (e1 : b1 x = b1 y) (e2 : b2 x = b2 y) : x = y := by
  rcases four h with rfl | rfl | rfl | rfl <;> rcases four k with rfl | rfl | rfl | rfl <;> first | rfl | (revert e1 e2; decide)
theorem b1_giv (k : Int) : b1 (giv k) = decide (k = 5 ∨ k = 6) := by
  unfold giv
  by_cases h : k = 5 ∨ k = 6
  · rw [if_pos h, decide_eq_true h]; rfl
  · rw [if_neg h, decide_eq_false h]; split <;> rfl
theorem b2_giv (k : Int) : b2 (giv k) = decide (k = 4) := by
  unfold giv
  by_cases h : k = 5 ∨ k = 6
  · rw [if_pos h, decide_eq_false (by omega)]; rfl
  · rw [if_neg h]; by_cases h4 : k = 4
    · rw [if_pos h4, decide_eq_true h4]; rfl
    · rw [if_neg h4, decide_eq_false h4]; rfl
theorem giv_join {k : Int} (h : joinB k = true) : giv k = 0 := by
  have := of_decide_eq_true h
  unfold giv; rw [if_neg (by omega), if_neg (by omega)]
theorem orC_zero {x : Int} : orC x 0 = x := by unfold orC; split <;> simp_all
/-- the colour of part q behind k devices -/
def cpK (ds : List Dv) (S : List Int) (p : Nat → Nat) : Nat → Nat → Int
  | 0, _ => 0
  | k + 1, q => if at0 S k = 2 ∧ p (dA ds k) = q then orC (cpK ds S p k q) (giv (dK ds k)) else cpK ds S p k q
theorem cpK_in (ds : List Dv) (S : List Int) (p : Nat → Nat) (k q : Nat) : 0 ≤ cpK ds S p k q ∧ cpK ds S p k q ≤ 3 := by
  induction k with
  | zero => simp [cpK]
  | succ k ih => rw [cpK]; split; exact orC_in ih (giv_in _); exact ih
/-- the colour of a node -/
def colr (ds : List Dv) (S : List Int) (v : Nat) : Int := cpK ds S (pt ds S) ds.length (pt ds S v)
theorem colr_in (ds : List Dv) (S : List Int) (v : Nat) : 0 ≤ colr ds S v ∧ colr ds S v ≤ 3 := cpK_in _ _ _ _ _
theorem cpK_b1 (ds : List Dv) (S : List Int) (p : Nat → Nat) (k q : Nat) : b1 (cpK ds S p k q) = true ↔ ∃ i, i < k ∧ at0 S i = 2 ∧ (dK ds i = 5 ∨ dK ds i = 6) ∧ p (dA ds i) = q := by
  induction k with
  | zero => simp [cpK, b1]
  | succ k ih =>
    rw [cpK]
    by_cases h : at0 S k = 2 ∧ p (dA ds k) = q
    · rw [if_pos h, b1_or (cpK_in _ _ _ _ _) (giv_in _), Bool.or_eq_true, ih, b1_giv, decide_eq_true_iff]
      constructor
      · rintro (⟨i, h1, h2⟩ | h1)
        · exact ⟨i, by omega, h2⟩
        · exact ⟨k, by omega, h.1, h1, h.2⟩
      · rintro ⟨i, h1, h2, h3, h4⟩
        by_cases e : i = k
        · subst e; exact .inr h3
        · exact .inl ⟨i, by omega, h2, h3, h4⟩
    · rw [if_neg h, ih]
      constructor
      · rintro ⟨i, h1, h2⟩; exact ⟨i, by omega, h2⟩
      · rintro ⟨i, h1, h2, h3, h4⟩
        by_cases e : i = k
        · subst e; exact absurd ⟨h2, h4⟩ h
        · exact ⟨i, by omega, h2, h3, h4⟩
theorem cpK_b2 (ds : List Dv) (S : List Int) (p : Nat → Nat) (k q : Nat) : b2 (cpK ds S p k q) = true ↔ ∃ i, i < k ∧ at0 S i = 2 ∧ dK ds i = 4 ∧ p (dA ds i) = q := by
  induction k with
  | zero => simp [cpK, b2]
  | succ k ih =>
    rw [cpK]
    by_cases h : at0 S k = 2 ∧ p (dA ds k) = q
    · rw [if_pos h, b2_or (cpK_in _ _ _ _ _) (giv_in _), Bool.or_eq_true, ih, b2_giv, decide_eq_true_iff]
      constructor
      · rintro (⟨i, h1, h2⟩ | h1)
        · exact ⟨i, by omega, h2⟩
        · exact ⟨k, by omega, h.1, h1, h.2⟩
      · rintro ⟨i, h1, h2, h3, h4⟩
        by_cases e : i = k
        · subst e; exact .inr h3
        · exact .inl ⟨i, by omega, h2, h3, h4⟩
    · rw [if_neg h, ih]
      constructor
      · rintro ⟨i, h1, h2⟩; exact ⟨i, by omega, h2⟩
      · rintro ⟨i, h1, h2, h3, h4⟩
        by_cases e : i = k
        · subst e; exact absurd ⟨h2, h4⟩ h
        · exact ⟨i, by omega, h2, h3, h4⟩
theorem live_iff {ds : List Dv} {S : List Int} {v : Nat} : b1 (colr ds S v) = true ↔ ∃ i, i < ds.length ∧ at0 S i = 2 ∧ (dK ds i = 5 ∨ dK ds i = 6) ∧ pt ds S (dA ds i) = pt ds S v := cpK_b1 _ _ _ _ _
theorem earth_iff {ds : List Dv} {S : List Int} {v : Nat} : b2 (colr ds S v) = true ↔ ∃ i, i < ds.length ∧ at0 S i = 2 ∧ dK ds i = 4 ∧ pt ds S (dA ds i) = pt ds S v := cpK_b2 _ _ _ _ _
theorem colr_part {ds : List Dv} {S : List Int} {u v : Nat} (h : pt ds S u = pt ds S v) : colr ds S u = colr ds S v := by unfold colr; rw [h]
theorem colr_pt (ds : List Dv) (S : List Int) (v : Nat) : colr ds S (pt ds S v) = colr ds S v := colr_part (pt_idem ds S v)

/-! to close devices -/
/-- what is closed in S is closed in T -/
def Sub (ds : List Dv) (S T : List Int) : Prop := ∀ i, i < ds.length → at0 S i = 2 → at0 T i = 2
theorem Sub.edge {ds : List Dv} {S T : List Int} (h : Sub ds S T) (i : Nat) (hi : i < ds.length ∧ edge ds S i = true) : i < ds.length ∧ edge ds T i = true := by
  obtain ⟨h1, h2⟩ := hi
  obtain ⟨h3, h4⟩ := edge_iff.1 h2
  exact ⟨h1, edge_iff.2 ⟨h i h1 h3, h4⟩⟩
theorem Sub.fine {ds : List Dv} {S T : List Int} (h : Sub ds S T) {u v : Nat} (e : pt ds S u = pt ds S v) : pt ds T u = pt ds T v := (pt_is ds S).fine (pt_is ds T) h.edge e
theorem Sub.le {ds : List Dv} {S T : List Int} (h : Sub ds S T) (v : Nat) : pt ds T v ≤ pt ds S v := (pt_is ds S).le (pt_is ds T) h.edge v
theorem Sub.live {ds : List Dv} {S T : List Int} (h : Sub ds S T) {v : Nat} (e : b1 (colr ds S v) = true) : b1 (colr ds T v) = true := by
  obtain ⟨i, h1, h2, h3, h4⟩ := live_iff.1 e
  exact live_iff.2 ⟨i, h1, h i h1 h2, h3, h.fine h4⟩
theorem Sub.earth {ds : List Dv} {S T : List Int} (h : Sub ds S T) {v : Nat} (e : b2 (colr ds S v) = true) : b2 (colr ds T v) = true := by
  obtain ⟨i, h1, h2, h3, h4⟩ := earth_iff.1 e
  exact earth_iff.2 ⟨i, h1, h i h1 h2, h3, h.fine h4⟩
/-- the same devices that join are closed: the parts are the same -/
theorem pt_same {ds : List Dv} {S T : List Int} (h : ∀ i, i < ds.length → edge ds S i = edge ds T i) (v : Nat) : pt ds S v = pt ds T v :=
  (pt_is ds S).one (pt_is ds T) (fun i => by
    constructor
    · rintro ⟨h1, h2⟩; exact ⟨h1, by rw [← h i h1]; exact h2⟩
    · rintro ⟨h1, h2⟩; exact ⟨h1, by rw [h i h1]; exact h2⟩) v
/-- one device closed besides -/
theorem pt_more {ds : List Dv} {S T : List Int} {j : Nat} (hj : j < ds.length) (hn : ∀ i, i < ds.length → i ≠ j → at0 S i = at0 T i) (h1 : at0 S j ≠ 2) (h2 : at0 T j = 2) (v : Nat) :
    pt ds T v = if joinB (dK ds j) = true then mrg (pt ds S) (dA ds j) (dB ds j) v else pt ds S v := by
  have es : edge ds S j = false := by rw [Bool.eq_false_iff]; intro h; exact h1 (edge_iff.1 h).1
  have en : ∀ i, i < ds.length → i ≠ j → edge ds S i = edge ds T i := fun i hi e => by unfold edge; rw [hn i hi e]
  by_cases hk : joinB (dK ds j) = true
  · rw [if_pos hk]
    have et : edge ds T j = true := edge_iff.2 ⟨h2, hk⟩
    refine ((pt_is ds T).one ((pt_is ds S).mrg j) (fun i => ?_) v)
    constructor
    · rintro ⟨h3, h4⟩
      by_cases e : i = j
      · exact .inr e
      · exact .inl ⟨h3, by rw [en i h3 e]; exact h4⟩
    · rintro (⟨h3, h4⟩ | rfl)
      · refine ⟨h3, ?_⟩
        by_cases e : i = j
        · subst e; exact et
        · rw [← en i h3 e]; exact h4
      · exact ⟨hj, et⟩
  · rw [if_neg hk]
    refine (pt_same (fun i hi => ?_) v).symm
    by_cases e : i = j
    · subst e
      rw [es]; symm; rw [Bool.eq_false_iff]; intro h; exact hk (edge_iff.1 h).2
    · exact en i hi e
/-- how many parts -/
def cnt (p : Nat → Nat) (n : Nat) : Nat := ct (fun v => decide (p v = v)) n
theorem cnt_mrg {p : Nat → Nat} (hl : ∀ v, p v ≤ v) (hi : ∀ v, p (p v) = p v) {a b n : Nat} (ha : a < n) (hb : b < n) (hne : p a ≠ p b) : cnt (mrg p a b) n + 1 = cnt p n := by
  have hla := hl a
  have hlb := hl b
  symm
  unfold cnt
  refine ct_one (v := max (p a) (p b)) (fun u hu e => ?_) (by omega) ?_ ?_
  · rcases mrg_cases p a b u with ⟨h1, h2⟩ | ⟨h1, h2⟩
    · rw [h1]
    · have := hl u
      rw [decide_eq_false (by omega), decide_eq_false (by omega)]
  · have hm : p (max (p a) (p b)) = max (p a) (p b) := by
      rcases Nat.le_total (p a) (p b) with h | h
      · rw [Nat.max_eq_right h]; exact hi b
      · rw [Nat.max_eq_left h]; exact hi a
    have h2 : mrg p a b (max (p a) (p b)) = min (p a) (p b) := by unfold mrg; rw [if_pos hm]
    rw [h2]
    exact decide_eq_false (by omega)
  · have hm : p (max (p a) (p b)) = max (p a) (p b) := by
      rcases Nat.le_total (p a) (p b) with h | h
      · rw [Nat.max_eq_right h]; exact hi b
      · rw [Nat.max_eq_left h]; exact hi a
    exact decide_eq_true hm
/-! the reference's way: every two ends of a closed device made the less of both, until nothing changes -/
def sm (f : Nat → Int) : Nat → Nat
  | 0 => 0
  | n + 1 => sm f n + (f n).toNat
theorem sm_le {f g : Nat → Int} {n : Nat} (h : ∀ v, v < n → g v ≤ f v) : sm g n ≤ sm f n := by
  induction n with
  | zero => exact Nat.le_refl _
  | succ n ih => have := ih (fun v hv => h v (by omega)); have := h n (by omega); rw [sm, sm]; omega
theorem sm_less {f g : Nat → Int} {n u : Nat} (h : ∀ v, v < n → 0 ≤ g v ∧ g v ≤ f v) (hu : u < n) (hl : g u < f u) : sm g n + 1 ≤ sm f n := by
  induction n with
  | zero => cases hu
  | succ n ih =>
    rw [sm, sm]
    by_cases e : u = n
    · subst e
      have := sm_le (f := f) (g := g) (n := u) (fun v hv => (h v (by omega)).2)
      have := (h u (by omega)).1
      omega
    · have := ih (fun v hv => h v (by omega)) (by omega)
      have := h n (by omega)
      omega
/-- what the reference's list of nodes holds at any time -/
structure RIt (ds : List Dv) (S : List Int) (N : Nat) (o : List Int) : Prop where
  len : o.length = N
  low : ∀ v, v < N → 0 ≤ at0 o v ∧ at0 o v ≤ v
  part : ∀ v, v < N → pt ds S (at0 o v).toNat = pt ds S v
theorem at_set {l : List Int} {j : Nat} (z : Int) (hj : j < l.length) (i : Nat) : at0 (l.set j z) i = if i = j then z else at0 l i := by
  unfold at0
  rw [List.getD_eq_getElem?_getD, List.getElem?_set]
  by_cases e : i = j
  · subst e; simp [hj]
  · rw [if_neg (fun h => e h.symm), if_neg e, List.getD_eq_getElem?_getD]
theorem RIt.start (ds : List Dv) (S : List Int) (N : Nat) (o : List Int) (hl : o.length = N) (h : ∀ v, v < N → at0 o v = v) : RIt ds S N o :=
  ⟨hl, fun v hv => by rw [h v hv]; omega, fun v hv => by rw [h v hv]; rfl⟩
theorem RIt.step {ds : List Dv} {S : List Int} {N : Nat} {o : List Int} (h : RIt ds S N o) {i a b : Nat} (hi : i < ds.length) (he : edge ds S i = true) (ha : dA ds i = a) (hb : dB ds i = b) (hA : a < N) (hB : b < N) {x y : Int} (hx : at0 o a = x) (hy : at0 o b = y) (hne : x ≠ y) :
    RIt ds S N ((o.set a (min x y)).set b (min x y)) ∧ sm (at0 ((o.set a (min x y)).set b (min x y))) N + 1 ≤ sm (at0 o) N := by
  have ed : pt ds S a = pt ds S b := by
    have := (pt_is ds S).edge i ⟨hi, he⟩
    rwa [ha, hb] at this
  obtain ⟨a0, a1⟩ := h.low a hA
  obtain ⟨b0, b1⟩ := h.low b hB
  have pa := h.part a hA
  have pb := h.part b hB
  rw [hx] at a0 a1 pa
  rw [hy] at b0 b1 pb
  have hab : a ≠ b := fun e => by subst e; rw [hx] at hy; exact hne hy
  have hs : ∀ v, at0 ((o.set a (min x y)).set b (min x y)) v = if v = b then min x y else if v = a then min x y else at0 o v := fun v => by
    rw [at_set _ (by rw [List.length_set, h.len]; exact hB), at_set _ (by rw [h.len]; exact hA)]
  have hm : pt ds S (min x y).toNat = pt ds S a := by
    rcases Int.le_total x y with e | e
    · rw [Int.min_eq_left e]; exact pa
    · rw [Int.min_eq_right e, pb, ed]
  have m0 : 0 ≤ min x y := by omega
  have m1 : min x y ≤ a := by omega
  have m2 : min x y ≤ b := by omega
  have m3 : min x y ≤ x := by omega
  have m4 : min x y ≤ y := by omega
  refine ⟨⟨by rw [List.length_set, List.length_set]; exact h.len, fun v hv => ?_, fun v hv => ?_⟩, ?_⟩
  · rw [hs]
    by_cases e1 : v = b
    · rw [if_pos e1]; omega
    · rw [if_neg e1]
      by_cases e2 : v = a
      · rw [if_pos e2]; omega
      · rw [if_neg e2]; exact h.low v hv
  · rw [hs]
    by_cases e1 : v = b
    · rw [if_pos e1, hm, e1, ed]
    · rw [if_neg e1]
      by_cases e2 : v = a
      · rw [if_pos e2, hm, e2]
      · rw [if_neg e2]; exact h.part v hv
  · have hle : ∀ v, v < N → 0 ≤ at0 ((o.set a (min x y)).set b (min x y)) v ∧ at0 ((o.set a (min x y)).set b (min x y)) v ≤ at0 o v := fun v hv => by
      rw [hs]
      by_cases e1 : v = b
      · rw [if_pos e1, e1, hy]; omega
      · rw [if_neg e1]
        by_cases e2 : v = a
        · rw [if_pos e2, e2, hx]; omega
        · rw [if_neg e2]; exact ⟨(h.low v hv).1, Int.le_refl _⟩
    by_cases hc : x < y
    · refine sm_less hle hB ?_
      rw [hs, if_pos rfl, hy]; omega
    · refine sm_less hle hA ?_
      rw [hs, if_neg hab, if_pos rfl, hx]; omega
/-- the least nodes as a list -/
def ptL (ds : List Dv) (S : List Int) (N : Nat) : List Int := (List.range N).map fun v => (pt ds S v : Int)
theorem ptL_len (ds : List Dv) (S : List Int) (N : Nat) : (ptL ds S N).length = N := by simp [ptL]
theorem at0_map {N v : Nat} (f : Nat → Int) (h : v < N) : at0 ((List.range N).map f) v = f v := by simp [at0, h]
theorem ptL_at {ds : List Dv} {S : List Int} {N v : Nat} (h : v < N) : at0 (ptL ds S N) v = pt ds S v := at0_map _ h
theorem ext1 {l r : List Int} (hl : l.length = r.length) (h : ∀ i, i < l.length → at0 l i = at0 r i) : l = r := by
  refine List.ext_getElem hl (fun i h1 h2 => ?_)
  have := h i h1
  simpa [at0, h1, h2] using this
theorem RIt.done {ds : List Dv} {S : List Int} {N : Nat} {o : List Int} (h : RIt ds S N o) (hd : ∀ i, i < ds.length → edge ds S i = true → dA ds i < N ∧ dB ds i < N) (hf : ∀ i, i < ds.length → edge ds S i = true → at0 o (dA ds i) = at0 o (dB ds i)) : o = ptL ds S N := by
  refine ext1 (by rw [ptL_len]; exact h.len) (fun v hv => ?_)
  rw [h.len] at hv
  rw [ptL_at hv]
  have h0 := h.low v hv
  have hp := h.part v hv
  have hg := (pt_is ds S).const (fun v => if v < N then (at0 o v).toNat else v) (fun i hi => by
    obtain ⟨h1, h2⟩ := hd i hi.1 hi.2
    simp only [if_pos h1, if_pos h2, hf i hi.1 hi.2]) v
  have hl := pt_le ds S v
  have hl2 := pt_le ds S (at0 o v).toNat
  simp only [if_pos hv, if_pos (show pt ds S v < N by omega)] at hg
  have h1 := h.low (pt ds S v) (by omega)
  omega
/-- the colours as a list -/
def coL (ds : List Dv) (S : List Int) (N : Nat) : List Int := (List.range N).map fun v => colr ds S v
theorem coL_len (ds : List Dv) (S : List Int) (N : Nat) : (coL ds S N).length = N := by simp [coL]
theorem coL_at {ds : List Dv} {S : List Int} {N v : Nat} (h : v < N) : at0 (coL ds S N) v = colr ds S v := at0_map _ h
/-- the nodes before k with both colours -/
def faK (c : Nat → Int) : Nat → List Nat
  | 0 => []
  | k + 1 => if c k = 3 then faK c k ++ [k] else faK c k
theorem faK_le (c : Nat → Int) (k : Nat) : (faK c k).length ≤ k := by
  induction k with
  | zero => simp [faK]
  | succ k ih => rw [faK]; split; · rw [List.length_append, List.length_singleton]; omega
                 omega
theorem faK_mem {c : Nat → Int} {k v : Nat} : v ∈ faK c k ↔ v < k ∧ c v = 3 := by
  induction k with
  | zero => simp [faK]
  | succ k ih =>
    rw [faK]
    by_cases h : c k = 3
    · rw [if_pos h, List.mem_append, ih, List.mem_singleton]
      constructor
      · rintro (h1 | rfl)
        · exact ⟨by omega, h1.2⟩
        · exact ⟨by omega, h⟩
      · rintro ⟨h1, h2⟩
        by_cases e : v = k
        · exact .inr e
        · exact .inl ⟨by omega, h2⟩
    · rw [if_neg h, ih]
      constructor
      · rintro ⟨h1, h2⟩; exact ⟨by omega, h2⟩
      · rintro ⟨h1, h2⟩
        by_cases e : v = k
        · subst e; exact absurd h2 h
        · exact ⟨by omega, h2⟩
theorem faK_congr {c d : Nat → Int} {k : Nat} (h : ∀ v, v < k → c v = d v) : faK c k = faK d k := by
  induction k with
  | zero => rfl
  | succ k ih => rw [faK, faK, h k (by omega), ih (fun v hv => h v (by omega))]
end Go.Proofs.YtoeojhabhnoojaaDoor.col
