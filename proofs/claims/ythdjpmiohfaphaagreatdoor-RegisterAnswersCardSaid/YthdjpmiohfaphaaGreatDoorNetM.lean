/- The plain facts on networks that the proofs of layer 3 use: what Check says, where a name is found, distances and ways. No program in this text. -/
import Derived.Test.YthdjpmiohfaphaaGreatDoorLexM
namespace Go.Proofs.YthdjpmiohfaphaaGreatDoor.net
open lex

/-- a node: its name, its customers, its company -/
structure Nd where
  nm : ByteArray
  cu : Int
  co : Int
/-- a device: its name, its kind, its nodes, its company -/
structure Dv where
  nm : ByteArray
  ki : Int
  a : Int
  b : Int
  co : Int
instance : Inhabited Nd := ⟨⟨ByteArray.empty, 0, 0⟩⟩
instance : Inhabited Dv := ⟨⟨ByteArray.empty, 0, 0, 0, 0⟩⟩

def joinB (k : Int) : Bool := decide (1 ≤ k ∧ k ≤ 3)
def kindB (k : Int) : Bool := decide (1 ≤ k ∧ k ≤ 6)
def coB (c : Int) : Bool := decide (0 ≤ c ∧ c ≤ 7)
def ndB (N : Nat) (v : Int) : Bool := decide (0 ≤ v ∧ v < N)
def itsB (N : Nat) (d : Dv) : Bool := decide ((0 ≤ d.a ∧ d.a < N) ∧ ((1 ≤ d.ki ∧ d.ki ≤ 3) ∧ 0 ≤ d.b ∧ d.b < N ∧ d.b ≠ d.a ∨ ¬ (1 ≤ d.ki ∧ d.ki ≤ 3) ∧ d.b = -1))

/-! where a name is found -/
def fnd : List ByteArray → ByteArray → Int
  | [], _ => -1
  | x :: l, s => if x = s then 0 else if fnd l s = -1 then -1 else fnd l s + 1
theorem fnd_ge (l : List ByteArray) (s : ByteArray) : -1 ≤ fnd l s ∧ fnd l s < l.length := by
  induction l with
  | nil => simp [fnd]
  | cons x l ih =>
    rw [fnd, List.length_cons]
    by_cases h : x = s
    · rw [if_pos h]; omega
    · rw [if_neg h]
      by_cases h1 : fnd l s = -1
      · rw [if_pos h1]; omega
      · rw [if_neg h1]; omega
theorem fnd_none {l : List ByteArray} {s : ByteArray} (h : ∀ i (hi : i < l.length), l[i] ≠ s) : fnd l s = -1 := by
  induction l with
  | nil => rfl
  | cons x l ih =>
    have h0 : x ≠ s := h 0 (by simp)
    rw [fnd, if_neg h0, if_pos (ih (fun i hi => h (i + 1) (by simpa using hi)))]
theorem fnd_hit {l : List ByteArray} {s : ByteArray} {j : Nat} (hj : j < l.length) (he : l[j] = s) (hn : ∀ i (hi : i < l.length), i < j → l[i] ≠ s) : fnd l s = j := by
  induction l generalizing j with
  | nil => cases hj
  | cons x l ih =>
    cases j with
    | zero => have h0 : x = s := by simpa using he
              rw [fnd, if_pos h0]; rfl
    | succ j =>
      have h := ih (j := j) (by simpa using hj) (by simpa using he) (fun i hi hij => hn (i + 1) (by simpa using hi) (by omega))
      have h0 : x ≠ s := hn 0 (by simp) (by omega)
      rw [fnd, if_neg h0, h, if_neg (by omega)]
      omega
theorem fnd_not {l : List ByteArray} {s : ByteArray} (h : fnd l s = -1) : ∀ i (hi : i < l.length), l[i] ≠ s := by
  induction l with
  | nil => intro i hi; cases hi
  | cons x l ih =>
    rw [fnd] at h
    by_cases e : x = s
    · rw [if_pos e] at h; omega
    · rw [if_neg e] at h
      have hl : fnd l s = -1 := by
        by_cases h1 : fnd l s = -1
        · exact h1
        · rw [if_neg h1] at h
          have := fnd_ge l s
          omega
      intro i hi
      cases i with
      | zero => simpa using e
      | succ i => simpa using ih hl i (by simpa using hi)

/-! the first error of a list of them -/
def fe (f : Nat → Int) : Nat → Int
  | 0 => 0
  | n + 1 => if fe f n = 0 then f n else fe f n
theorem fe_ok {f : Nat → Int} {n : Nat} (h : ∀ i, i < n → f i = 0) : fe f n = 0 := by
  induction n with
  | zero => rfl
  | succ n ih => rw [fe, if_pos (ih (fun i hi => h i (by omega)))]; exact h n (by omega)
theorem fe_hit {f : Nat → Int} {n j : Nat} (hj : j < n) (h0 : ∀ i, i < j → f i = 0) (h : f j ≠ 0) : fe f n = f j := by
  induction n with
  | zero => cases hj
  | succ n ih =>
    rw [fe]
    by_cases e : j = n
    · subst e; rw [if_pos (fe_ok h0)]
    · have := ih (by omega)
      rw [this, if_neg h]
theorem fe_zero {f : Nat → Int} {n : Nat} (h : fe f n = 0) : ∀ i, i < n → f i = 0 := by
  induction n with
  | zero => intro i hi; cases hi
  | succ n ih =>
    rw [fe] at h
    by_cases e : fe f n = 0
    · rw [if_pos e] at h
      intro i hi
      by_cases e1 : i = n
      · subst e1; exact h
      · exact ih e i (by omega)
    · rw [if_neg e] at h; exact absurd h e

/-! what Check says -/
def ndE (pre : List ByteArray) (x : Nd) : Int :=
  if nameB x.nm.data.toList = true then if fnd pre x.nm = -1 then if 0 ≤ x.cu ∧ x.cu ≤ 1048576 ∧ 0 ≤ x.co ∧ x.co ≤ 7 then 0 else 5 else 4 else 3
def dvE (nn pre : List ByteArray) (N : Nat) (d : Dv) : Int :=
  if nameB d.nm.data.toList = true then if fnd nn d.nm = -1 ∧ fnd pre d.nm = -1 then if 1 ≤ d.ki ∧ d.ki ≤ 6 then if itsB N d = true then if 0 ≤ d.co ∧ d.co ≤ 7 then 0 else 5 else 7 else 6 else 4 else 3
def nmsN (ns : List Nd) : List ByteArray := ns.map (·.nm)
def nmsD (ds : List Dv) : List ByteArray := ds.map (·.nm)
def ndsE (ns : List Nd) (i : Nat) : Int := ndE (nmsN (ns.take i)) (ns.getD i default)
def dvsE (ns : List Nd) (ds : List Dv) (i : Nat) : Int := dvE (nmsN ns) (nmsD (ds.take i)) ns.length (ds.getD i default)
def chk (ns : List Nd) (ds : List Dv) : Int :=
  if 32 < ns.length ∨ 64 < ds.length then 1 else if fe (ndsE ns) ns.length = 0 then fe (dvsE ns ds) ds.length else fe (ndsE ns) ns.length
theorem ndE_in (pre : List ByteArray) (x : Nd) : 0 ≤ ndE pre x ∧ ndE pre x ≤ 5 := by unfold ndE; repeat (first | omega | split)
theorem dvE_in (nn pre : List ByteArray) (N : Nat) (d : Dv) : 0 ≤ dvE nn pre N d ∧ dvE nn pre N d ≤ 7 := by unfold dvE; repeat (first | omega | split)
theorem fe_in {f : Nat → Int} (h : ∀ i, 0 ≤ f i ∧ f i ≤ 7) (n : Nat) : 0 ≤ fe f n ∧ fe f n ≤ 7 := by
  induction n with
  | zero => simp [fe]
  | succ n ih => rw [fe]; split; exact h n; exact ih
theorem chk_in (ns : List Nd) (ds : List Dv) : 0 ≤ chk ns ds ∧ chk ns ds ≤ 7 := by
  have h1 := fe_in (f := ndsE ns) (fun i => by have := ndE_in (nmsN (ns.take i)) (ns.getD i default); unfold ndsE; omega) ns.length
  have h2 := fe_in (f := dvsE ns ds) (fun i => dvE_in _ _ _ _) ds.length
  unfold chk; split
  · omega
  · split; exact h2; exact h1
theorem chk_small {ns : List Nd} {ds : List Dv} (h : chk ns ds = 0) : ns.length ≤ 32 ∧ ds.length ≤ 64 := by
  unfold chk at h
  by_cases e : 32 < ns.length ∨ 64 < ds.length
  · rw [if_pos e] at h; omega
  · omega
theorem chk_dv {ns : List Nd} {ds : List Dv} (h : chk ns ds = 0) (i : Nat) (hi : i < ds.length) : dvsE ns ds i = 0 := by
  have hs := chk_small h
  unfold chk at h
  rw [if_neg (by omega)] at h
  by_cases e : fe (ndsE ns) ns.length = 0
  · rw [if_pos e] at h; exact fe_zero h i hi
  · rw [if_neg e] at h; exact absurd h e
theorem dvE_parts {nn pre : List ByteArray} {N : Nat} {d : Dv} (h : dvE nn pre N d = 0) : nameB d.nm.data.toList = true ∧ fnd nn d.nm = -1 ∧ fnd pre d.nm = -1 ∧ (1 ≤ d.ki ∧ d.ki ≤ 6) ∧ itsB N d = true ∧ 0 ≤ d.co ∧ d.co ≤ 7 := by
  unfold dvE at h
  split at h
  · split at h
    · split at h
      · split at h
        · split at h
          · rename_i h1 h2 h3 h4 h5; exact ⟨h1, h2.1, h2.2, h3, h4, h5⟩
          · omega
        · omega
      · omega
    · omega
  · omega
theorem ndE_parts {pre : List ByteArray} {x : Nd} (h : ndE pre x = 0) : nameB x.nm.data.toList = true ∧ fnd pre x.nm = -1 ∧ 0 ≤ x.cu ∧ x.cu ≤ 1048576 ∧ 0 ≤ x.co ∧ x.co ≤ 7 := by
  unfold ndE at h
  split at h
  · split at h
    · split at h
      · rename_i h1 h2 h3; exact ⟨h1, h2, h3⟩
      · omega
    · omega
  · omega
theorem itsB_parts {N : Nat} {d : Dv} (h : itsB N d = true) : (0 ≤ d.a ∧ d.a < N) ∧ ((1 ≤ d.ki ∧ d.ki ≤ 3) ∧ 0 ≤ d.b ∧ d.b < N ∧ d.b ≠ d.a ∨ ¬ (1 ≤ d.ki ∧ d.ki ≤ 3) ∧ d.b = -1) := of_decide_eq_true h
theorem chk_its {ns : List Nd} {ds : List Dv} (h : chk ns ds = 0) (i : Nat) (hi : i < ds.length) : itsB ns.length (ds.getD i default) = true := (dvE_parts (chk_dv h i hi)).2.2.2.2.1

/-! over a device -/
def acr (d : Dv) (v : Int) : Int := if 1 ≤ d.ki ∧ d.ki ≤ 3 then if v = d.a then d.b else if v = d.b then d.a else -1 else -1
theorem acr_in {N : Nat} {d : Dv} {v : Int} (h : itsB N d = true) : acr d v = -1 ∨ 0 ≤ acr d v ∧ acr d v < N ∧ acr d (acr d v) = v := by
  obtain ⟨h1, h2⟩ := itsB_parts h
  by_cases hk : 1 ≤ d.ki ∧ d.ki ≤ 3
  · rcases h2 with ⟨_, b0, b1, b2⟩ | ⟨h2, _⟩
    · by_cases e1 : v = d.a
      · right
        have e : acr d v = d.b := by unfold acr; rw [if_pos hk, if_pos e1]
        rw [e]
        refine ⟨b0, b1, ?_⟩
        unfold acr; rw [if_pos hk, if_neg b2, if_pos rfl]; exact e1.symm
      · by_cases e2 : v = d.b
        · right
          have e : acr d v = d.a := by unfold acr; rw [if_pos hk, if_neg e1, if_pos e2]
          rw [e]
          refine ⟨h1.1, h1.2, ?_⟩
          unfold acr; rw [if_pos hk, if_pos rfl]; exact e2.symm
        · left; unfold acr; rw [if_pos hk, if_neg e1, if_neg e2]
    · exact absurd hk h2
  · left; unfold acr; rw [if_neg hk]

/-! how many -/
def ct (p : Nat → Bool) : Nat → Nat
  | 0 => 0
  | n + 1 => ct p n + if p n then 1 else 0
theorem ct_le (p : Nat → Bool) (n : Nat) : ct p n ≤ n := by
  induction n with
  | zero => exact Nat.le_refl _
  | succ n ih => rw [ct]; split <;> omega
theorem ct_mono {p q : Nat → Bool} {n : Nat} (h : ∀ u, u < n → p u = true → q u = true) : ct p n ≤ ct q n := by
  induction n with
  | zero => exact Nat.le_refl _
  | succ n ih =>
    have := ih (fun u hu => h u (by omega))
    have h1 := h n (by omega)
    rw [ct, ct]
    cases hp : p n
    · simp; split <;> omega
    · rw [h1 hp]; simp; omega
theorem ct_more {p q : Nat → Bool} {n v : Nat} (h : ∀ u, u < n → p u = true → q u = true) (hv : v < n) (h0 : p v = false) (h1 : q v = true) : ct p n + 1 ≤ ct q n := by
  induction n with
  | zero => cases hv
  | succ n ih =>
    rw [ct, ct]
    by_cases e : v = n
    · subst e
      have := ct_mono (p := p) (q := q) (n := v) (fun u hu => h u (by omega))
      rw [h0, h1]; simp; omega
    · have := ih (fun u hu => h u (by omega)) (by omega)
      have h2 := h n (by omega)
      cases hp : p n
      · simp; split <;> omega
      · rw [h2 hp]; simp; omega
theorem ct_lt {p : Nat → Bool} {n v : Nat} (hv : v < n) (h0 : p v = false) : ct p n < n := by
  have := ct_more (p := p) (q := fun _ => true) (fun _ _ _ => rfl) hv h0 rfl
  have := ct_le (fun _ => true) n
  omega
theorem ct_one {p q : Nat → Bool} {n v : Nat} (h : ∀ u, u < n → u ≠ v → p u = q u) (hv : v < n) (h0 : p v = false) (h1 : q v = true) : ct q n = ct p n + 1 := by
  induction n with
  | zero => cases hv
  | succ n ih =>
    rw [ct, ct]
    by_cases e : v = n
    · subst e
      have e1 : ct q v = ct p v := by
        have : ∀ m, m ≤ v → ct q m = ct p m := by
          intro m hm
          induction m with
          | zero => rfl
          | succ m ihm => rw [ct, ct, ihm (by omega), h m (by omega) (by omega)]
        exact this v (Nat.le_refl _)
      rw [e1, h0, h1]; simp
    · rw [ih (fun u hu => h u (by omega)) (by omega), h n (by omega) (by omega)]; omega
theorem ct_single {p : Nat → Bool} {n v : Nat} (hv : v < n) (h1 : p v = true) (h : ∀ u, u < n → u ≠ v → p u = false) : ct p n = 1 := by
  have := ct_one (p := fun _ => false) (q := p) (fun u hu hne => (h u hu hne).symm) hv rfl h1
  have z : ∀ m, ct (fun _ => false) m = 0 := by
    intro m; induction m with
    | zero => rfl
    | succ m ih => rw [ct, ih]; rfl
  rw [z] at this; exact this

/-! a graph: over device i one comes from node v to G i v, or to none (-1) -/
def Sym (G : Nat → Nat → Int) (M N : Nat) : Prop := ∀ i, i < M → ∀ v, v < N → G i v = -1 ∨ ∃ u : Nat, u < N ∧ G i v = u ∧ G i u = v
structure IsDist (G : Nat → Nat → Int) (M N to : Nat) (D : Nat → Int) : Prop where
  goal : to < N
  zero : D to = 0
  only : ∀ v, v < N → D v = 0 → v = to
  low : ∀ v, v < N → -1 ≤ D v
  back : ∀ v, v < N → 1 ≤ D v → ∃ i, i < M ∧ ∃ u : Nat, u < N ∧ G i v = u ∧ D u = D v - 1
  step : ∀ v, v < N → 0 ≤ D v → ∀ i, i < M → ∀ u : Nat, u < N → G i v = u → 0 ≤ D u ∧ D u ≤ D v + 1
theorem Sym.turn {G : Nat → Nat → Int} {M N : Nat} (h : Sym G M N) {i v u : Nat} (hi : i < M) (hv : v < N) (e : G i v = u) : G i u = v := by
  rcases h i hi v hv with h | ⟨u', _, e1, e2⟩
  · omega
  · obtain rfl : u = u' := by omega
    exact e2
theorem IsDist.le {G G' : Nat → Nat → Int} {M N to : Nat} {D D' : Nat → Int} (hG : Sym G' M N) (h : IsDist G M N to D) (h' : IsDist G' M N to D')
    (sub : ∀ i, i < M → ∀ v, v < N → ∀ u : Nat, G i v = u → G' i v = u) : ∀ (n v : Nat), v < N → D v = n → 0 ≤ D' v ∧ D' v ≤ n := by
  intro n
  induction n with
  | zero => intro v hv e; rw [h.only v hv (by simpa using e), h'.zero]; omega
  | succ n ih =>
    intro v hv e
    obtain ⟨i, hi, u, hu, e1, e2⟩ := h.back v hv (by omega)
    obtain ⟨h1, h2⟩ := ih u hu (by omega)
    have e3 := hG.turn hi hv (sub i hi v hv u e1)
    have := h'.step u hu h1 i hi v hv e3
    omega
theorem IsDist.eq {G : Nat → Nat → Int} {M N to : Nat} {D D' : Nat → Int} (hG : Sym G M N) (h : IsDist G M N to D) (h' : IsDist G M N to D') (v : Nat) (hv : v < N) : D v = D' v := by
  have l := h.low v hv
  have l' := h'.low v hv
  have a := fun n => h.le hG h' (fun _ _ _ _ _ e => e) n v hv
  have b := fun n => h'.le hG h (fun _ _ _ _ _ e => e) n v hv
  by_cases e : D v = -1
  · by_cases e' : D' v = -1
    · omega
    · have := b (D' v).toNat (by omega); omega
  · have := a (D v).toNat (by omega)
    have := b (D' v).toNat (by omega)
    omega
theorem IsDist.swap {G : Nat → Nat → Int} {M N t f : Nat} {D D' : Nat → Int} (h : IsDist G M N t D) (h' : IsDist G M N f D') :
    ∀ (n v : Nat), v < N → D v = n → 0 ≤ D' v → 0 ≤ D' t ∧ D' t ≤ D' v + n := by
  intro n
  induction n with
  | zero => intro v hv e h0; rw [h.only v hv (by simpa using e)] at h0 ⊢; omega
  | succ n ih =>
    intro v hv e h0
    obtain ⟨i, hi, u, hu, e1, e2⟩ := h.back v hv (by omega)
    have h1 := h'.step v hv h0 i hi u hu e1
    have := ih u hu (by omega) h1.1
    omega
theorem IsDist.both {G : Nat → Nat → Int} {M N t f : Nat} {D D' : Nat → Int} (h : IsDist G M N t D) (h' : IsDist G M N f D') : D f = D' t := by
  have l := h.low f h'.goal
  have l' := h'.low t h.goal
  have a := fun n => h.swap h' n f h'.goal
  have b := fun n => h'.swap h n t h.goal
  have z := h.zero
  have z' := h'.zero
  by_cases e : D f = -1
  · by_cases e' : D' t = -1
    · omega
    · have := b (D' t).toNat (by omega) (by omega); omega
  · have := a (D f).toNat (by omega) (by omega)
    have := b (D' t).toNat (by omega) (by omega)
    omega
theorem IsDist.lt {G : Nat → Nat → Int} {M N to : Nat} {D : Nat → Int} (h : IsDist G M N to D) (v : Nat) (hv : v < N) : D v < N := by
  have key : ∀ (n v : Nat), v < N → D v = n → n + 1 ≤ ct (fun u => decide (0 ≤ D u ∧ D u ≤ n)) N := by
    intro n
    induction n with
    | zero =>
      intro v hv e
      have := ct_more (p := fun _ => false) (q := fun u => decide (0 ≤ D u ∧ D u ≤ ((0 : Nat) : Int))) (fun _ _ h => by cases h) hv rfl (decide_eq_true (by omega))
      omega
    | succ n ih =>
      intro v hv e
      obtain ⟨i, hi, u, hu, e1, e2⟩ := h.back v hv (by omega)
      have h1 := ih u hu (by omega)
      have := ct_more (p := fun u => decide (0 ≤ D u ∧ D u ≤ n)) (q := fun u => decide (0 ≤ D u ∧ D u ≤ ((n + 1 : Nat) : Int))) (n := N) (v := v)
        (fun u _ hp => by have := of_decide_eq_true hp; exact decide_eq_true (by omega)) hv (decide_eq_false (by omega)) (decide_eq_true (by omega))
      omega
  have := h.low v hv
  by_cases e : D v = -1
  · omega
  · have := key (D v).toNat v hv (by omega)
    have := ct_le (fun u => decide (0 ≤ D u ∧ D u ≤ ((D v).toNat : Int))) N
    omega

/-! the way -/
/-- the least number below n with p, or n -/
def fi (p : Nat → Bool) : Nat → Nat
  | 0 => 0
  | n + 1 => if fi p n < n then fi p n else if p n then n else n + 1
theorem fi_no {p : Nat → Bool} {n : Nat} (h : ∀ i, i < n → p i = false) : fi p n = n := by
  induction n with
  | zero => rfl
  | succ n ih => rw [fi, ih (fun i hi => h i (by omega)), if_neg (by omega), h n (by omega)]; simp
theorem fi_hit {p : Nat → Bool} {n j : Nat} (hj : j < n) (hp : p j = true) (h : ∀ i, i < j → p i = false) : fi p n = j := by
  induction n with
  | zero => cases hj
  | succ n ih =>
    rw [fi]
    by_cases e : j = n
    · subst e; rw [fi_no h, if_neg (by omega), hp]; simp
    · rw [ih (by omega), if_pos (by omega)]
/-- device i leads from v to a node that is nearer by one -/
def nearB (G : Nat → Nat → Int) (D : Nat → Int) (v i : Nat) : Bool := decide (0 ≤ G i v) && decide (D (G i v).toNat = D v - 1)
theorem nearB_iff {G : Nat → Nat → Int} {D : Nat → Int} {v i : Nat} : nearB G D v i = true ↔ 0 ≤ G i v ∧ D (G i v).toNat = D v - 1 := by
  unfold nearB; rw [Bool.and_eq_true, decide_eq_true_eq, decide_eq_true_eq]
def nxt (G : Nat → Nat → Int) (M : Nat) (D : Nat → Int) (v : Nat) : Nat := fi (nearB G D v) M
def wayL (G : Nat → Nat → Int) (M : Nat) (D : Nat → Int) : Nat → Nat → List Nat
  | 0, _ => []
  | n + 1, v => nxt G M D v :: wayL G M D n (G (nxt G M D v) v).toNat
theorem wayL_length (G : Nat → Nat → Int) (M : Nat) (D : Nat → Int) (n v : Nat) : (wayL G M D n v).length = n := by
  induction n generalizing v with
  | zero => rfl
  | succ n ih => rw [wayL, List.length_cons, ih]
theorem least {p : Nat → Bool} {n : Nat} (h : ∃ i, i < n ∧ p i = true) : fi p n < n ∧ p (fi p n) = true ∧ ∀ i, i < fi p n → p i = false := by
  induction n with
  | zero => obtain ⟨i, hi, _⟩ := h; cases hi
  | succ n ih =>
    by_cases e : ∃ i, i < n ∧ p i = true
    · obtain ⟨a, b, c⟩ := ih e
      rw [fi, if_pos a]; exact ⟨by omega, b, c⟩
    · have hno : ∀ i, i < n → p i = false := fun i hi => by
        cases hp : p i
        · rfl
        · exact absurd ⟨i, hi, hp⟩ e
      obtain ⟨i, hi, hp⟩ := h
      obtain rfl : i = n := by
        by_cases e1 : i = n
        · exact e1
        · exact absurd ⟨i, by omega, hp⟩ e
      rw [fi, fi_no hno, if_neg (by omega), hp, if_pos rfl]
      exact ⟨by omega, hp, hno⟩
theorem IsDist.next {G : Nat → Nat → Int} {M N to : Nat} {D : Nat → Int} (hG : Sym G M N) (h : IsDist G M N to D) (v : Nat) (hv : v < N) (h1 : 1 ≤ D v) :
    nxt G M D v < M ∧ (∃ u : Nat, u < N ∧ G (nxt G M D v) v = u ∧ D u = D v - 1) ∧ (∀ i, i < nxt G M D v → nearB G D v i = false) ∧ nearB G D v (nxt G M D v) = true := by
  obtain ⟨i, hi, u, hu, e1, e2⟩ := h.back v hv h1
  obtain ⟨a, b, c⟩ := least (p := nearB G D v) (n := M) ⟨i, hi, by unfold nearB; rw [decide_eq_true (by omega), e1, Int.toNat_natCast, decide_eq_true e2]; rfl⟩
  refine ⟨a, ?_, c, b⟩
  have hb := nearB_iff.1 b
  show ∃ u : Nat, u < N ∧ G (fi (nearB G D v) M) v = u ∧ D u = D v - 1
  rcases hG _ a v hv with e | ⟨u', hu', e3, _⟩
  · omega
  · refine ⟨u', hu', e3, ?_⟩
    have := hb.2
    rw [e3, Int.toNat_natCast] at this
    exact this

/-! looking from node to node -/
def upd {α : Type} (f : Nat → α) (i : Nat) (x : α) : Nat → α := fun j => if j = i then x else f j
theorem upd_eq {α : Type} (f : Nat → α) (i : Nat) (x : α) : upd f i x i = x := by simp [upd]
theorem upd_ne {α : Type} (f : Nat → α) {i j : Nat} (x : α) (h : j ≠ i) : upd f i x j = f j := by simp [upd, h]
structure BI (G : Nat → Nat → Int) (M N to : Nat) (F : Nat → Int) (q : Nat → Nat) (c f j : Nat) : Prop where
  goal : to < N
  zero : F to = 0
  only : ∀ v, v < N → F v = 0 → v = to
  low : ∀ v, v < N → -1 ≤ F v
  qin : ∀ i, i < c → q i < N ∧ 0 ≤ F (q i)
  qall : ∀ v, v < N → 0 ≤ F v → ∃ i, i < c ∧ q i = v
  sorted : ∀ i k, i ≤ k → k < c → F (q i) ≤ F (q k)
  near : f < c → ∀ v, v < N → F v ≤ F (q f) + 1
  back : ∀ v, v < N → 1 ≤ F v → ∃ i, i < M ∧ ∃ u : Nat, u < N ∧ G i v = u ∧ F u = F v - 1
  done : ∀ k, k < f → ∀ i, i < M → ∀ u : Nat, u < N → G i (q k) = u → 0 ≤ F u ∧ F u ≤ F (q k) + 1
  part : f < c → ∀ i, i < j → ∀ u : Nat, u < N → G i (q f) = u → 0 ≤ F u ∧ F u ≤ F (q f) + 1
  cnt : c = ct (fun v => decide (0 ≤ F v)) N
  fc : f ≤ c
theorem BI.c_le {G M N to F q c f j} (h : BI G M N to F q c f j) : c ≤ N := by rw [h.cnt]; exact ct_le _ _
theorem BI.start {G : Nat → Nat → Int} {M N to : Nat} (F : Nat → Int) (q : Nat → Nat) (ht : to < N) (hF : F to = 0) (hF' : ∀ v, v < N → v ≠ to → F v = -1) (hq : q 0 = to) : BI G M N to F q 1 0 0 where
  goal := ht
  zero := hF
  only := fun v hv e => by
    by_cases h : v = to
    · exact h
    · have := hF' v hv h; omega
  low := fun v hv => by
    by_cases h : v = to
    · subst h; omega
    · have := hF' v hv h; omega
  qin := fun i hi => by obtain rfl : i = 0 := by omega
                        rw [hq]; omega
  qall := fun v hv h0 => ⟨0, by omega, by
    by_cases h : v = to
    · rw [h]; exact hq
    · have := hF' v hv h; omega⟩
  sorted := fun i k h1 h2 => by obtain rfl : i = 0 := by omega
                                obtain rfl : k = 0 := by omega
                                exact Int.le_refl _
  near := fun _ v hv => by
    rw [hq]
    by_cases h : v = to
    · subst h; omega
    · have := hF' v hv h; omega
  back := fun v hv h1 => by
    by_cases h : v = to
    · subst h; omega
    · have := hF' v hv h; omega
  done := fun k hk => by cases hk
  part := fun _ i hi => by cases hi
  cnt := by
    symm
    refine ct_single ht (by simp [hF]) (fun u hu hne => ?_)
    have := hF' u hu hne
    exact decide_eq_false (by omega)
  fc := by omega
theorem BI.skip {G M N to F q c f j} (h : BI G M N to F q c f j) (hk : ∀ u : Nat, u < N → G j (q f) = u → 0 ≤ F u) : BI G M N to F q c f (j + 1) where
  goal := h.goal
  zero := h.zero
  only := h.only
  low := h.low
  qin := h.qin
  qall := h.qall
  sorted := h.sorted
  near := h.near
  back := h.back
  done := h.done
  part := fun hf i hi u hu e => by
    by_cases e1 : i = j
    · subst e1; exact ⟨hk u hu e, h.near hf u hu⟩
    · exact h.part hf i (by omega) u hu e
  cnt := h.cnt
  fc := h.fc
theorem BI.found {G : Nat → Nat → Int} {M N to : Nat} {F : Nat → Int} {q : Nat → Nat} {c f j u : Nat} (hG : Sym G M N) (h : BI G M N to F q c f j) (hf : f < c) (hj : j < M) (hu : u < N) (e : G j (q f) = u) (hn : F u = -1) :
    BI G M N to (upd F u (F (q f) + 1)) (upd q c u) (c + 1) f (j + 1) := by
  have hq := h.qin f hf
  have hne : ∀ v, 0 ≤ F v → v ≠ u := fun v h0 e => by subst e; omega
  have hqne : ∀ i, i < c → q i ≠ u := fun i hi => hne _ (h.qin i hi).2
  have eq' : ∀ i, i < c → upd q c u i = q i := fun i hi => upd_ne _ _ (by omega)
  have eF : ∀ v, v ≠ u → upd F u (F (q f) + 1) v = F v := fun v hv => upd_ne _ _ hv
  have eFu : upd F u (F (q f) + 1) u = F (q f) + 1 := upd_eq _ _ _
  have eqc : upd q c u c = u := upd_eq _ _ _
  have hcu := ct_one (p := fun v => decide (0 ≤ F v)) (q := fun v => decide (0 ≤ upd F u (F (q f) + 1) v)) (n := N) (v := u) (fun v _ hv => by show _ = decide (0 ≤ upd F u _ v); rw [eF v hv]) hu (decide_eq_false (by omega)) (decide_eq_true (by rw [eFu]; omega))
  refine { goal := h.goal, zero := ?_, only := ?_, low := ?_, qin := ?_, qall := ?_, sorted := ?_, near := ?_, back := ?_, done := ?_, part := ?_, cnt := ?_, fc := ?_ }
  · rw [eF _ (hne to (by rw [h.zero]; omega))]; exact h.zero
  · intro v hv e0
    by_cases ev : v = u
    · subst ev; rw [eFu] at e0; omega
    · rw [eF v ev] at e0; exact h.only v hv e0
  · intro v hv
    by_cases ev : v = u
    · subst ev; rw [eFu]; omega
    · rw [eF v ev]; exact h.low v hv
  · intro i hi
    by_cases ei : i = c
    · subst ei; rw [eqc, eFu]; exact ⟨hu, by omega⟩
    · rw [eq' i (by omega), eF _ (hqne i (by omega))]; exact h.qin i (by omega)
  · intro v hv h0
    by_cases ev : v = u
    · exact ⟨c, by omega, by rw [eqc, ev]⟩
    · rw [eF v ev] at h0
      obtain ⟨i, hi, e1⟩ := h.qall v hv h0
      exact ⟨i, by omega, by rw [eq' i hi]; exact e1⟩
  · intro i k hik hk
    by_cases ek : k = c
    · subst ek
      rw [eqc, eFu]
      by_cases ei : i = k
      · subst ei; rw [eqc, eFu]; omega
      · rw [eq' i (by omega), eF _ (hqne i (by omega))]; exact h.near hf _ (h.qin i (by omega)).1
    · rw [eq' i (by omega), eq' k (by omega), eF _ (hqne i (by omega)), eF _ (hqne k (by omega))]; exact h.sorted i k hik (by omega)
  · intro _ v hv
    rw [eq' f hf, eF _ (hqne f hf)]
    by_cases ev : v = u
    · subst ev; rw [eFu]; omega
    · rw [eF v ev]; exact h.near hf v hv
  · intro v hv h1
    by_cases ev : v = u
    · subst ev
      exact ⟨j, hj, q f, hq.1, hG.turn hj hq.1 e, by rw [eFu, eF _ (hqne f hf)]; omega⟩
    · rw [eF v ev] at h1
      obtain ⟨i, hi, x, hx, e1, e2⟩ := h.back v hv h1
      exact ⟨i, hi, x, hx, e1, by rw [eF v ev, eF x (hne x (by omega))]; exact e2⟩
  · intro k hk i hi x hx e1
    rw [eq' k (by omega)] at e1 ⊢
    rw [eF _ (hqne k (by omega))]
    obtain ⟨h1, h2⟩ := h.done k hk i hi x hx e1
    rw [eF x (hne x h1)]; exact ⟨h1, h2⟩
  · intro _ i hi x hx e1
    rw [eq' f hf] at e1 ⊢
    rw [eF _ (hqne f hf)]
    by_cases ei : i = j
    · subst ei
      obtain rfl : x = u := by omega
      rw [eFu]; omega
    · obtain ⟨h1, h2⟩ := h.part hf i (by omega) x hx e1
      rw [eF x (hne x h1)]; exact ⟨h1, h2⟩
  · rw [hcu, ← h.cnt]
  · omega
theorem BI.next {G M N to F q c f} (h : BI G M N to F q c f M) (hf : f < c) : BI G M N to F q c (f + 1) 0 where
  goal := h.goal
  zero := h.zero
  only := h.only
  low := h.low
  qin := h.qin
  qall := h.qall
  sorted := h.sorted
  near := fun hf' v hv => by
    have := h.near hf v hv
    have := h.sorted f (f + 1) (by omega) hf'
    omega
  back := h.back
  done := fun k hk i hi u hu e => by
    by_cases e1 : k = f
    · subst e1; exact h.part hf i hi u hu e
    · exact h.done k (by omega) i hi u hu e
  part := fun _ i hi => by cases hi
  cnt := h.cnt
  fc := by omega
theorem BI.dist {G M N to F q c j} (h : BI G M N to F q c c j) : IsDist G M N to F where
  goal := h.goal
  zero := h.zero
  only := h.only
  low := h.low
  back := h.back
  step := fun v hv h0 i hi u hu e => by
    obtain ⟨k, hk, rfl⟩ := h.qall v hv h0
    exact h.done k hk i hi u hu e
end Go.Proofs.YthdjpmiohfaphaaGreatDoor.net
