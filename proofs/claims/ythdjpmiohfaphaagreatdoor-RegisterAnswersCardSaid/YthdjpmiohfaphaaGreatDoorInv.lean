/- A region that draws its order, by an invariant over what has been done: each operation is looked at once, whatever order is drawn. No walk in this text. -/
import Derived.Test.YthdjpmiohfaphaaGreatDoorProg
import Derived.RegionTactic
namespace Go.Proofs.YthdjpmiohfaphaaGreatDoor.inv

theorem filter_lt {l : List Nat} {f g : Nat → Bool} (h : ∀ j, g j = true → f j = true) {i : Nat} (hi : i ∈ l) (hf : f i = true) (hg : g i = false) : (l.filter g).length < (l.filter f).length := by
  induction l with
  | nil => cases hi
  | cons x l ih =>
    have le : ∀ l : List Nat, (l.filter g).length ≤ (l.filter f).length := fun l => by
      induction l with
      | nil => simp
      | cons y l ih2 =>
        by_cases hy : g y = true
        · simp [hy, h y hy]; exact ih2
        · by_cases hy2 : f y = true
          · simp [hy, hy2]; omega
          · simp [hy, hy2]; exact ih2
    by_cases e : x = i
    · subst e
      have := le l
      simp [hf, hg]; omega
    · have := ih (by
        rcases List.mem_cons.1 hi with e1 | e1
        · exact absurd e1.symm e
        · exact e1)
      by_cases hx : g x = true
      · simp [hx, h x hx]; exact this
      · by_cases hx2 : f x = true
        · simp [hx, hx2]; omega
        · simp [hx, hx2]; exact this
def undone (n : Nat) (listed : Array Bool) : Nat := ((List.range n).filter fun i => !listed.getD i true).length
section
variable {P : Program} {ops : Array Oper} {Q : Exit → Act → World → Prop} {md : Region.Mode}
theorem ready_is {listed : Array Bool} {i : Nat} (h : i ∈ Region.ready md ops listed) : i < ops.size ∧ listed.getD i true = false ∧ ∃ o, ops[i]? = some o ∧ o.after.all (fun e => !Region.binds md e || listed.getD e.on false) = true := by
  unfold Region.ready at h
  rw [List.mem_filter, List.mem_range, Bool.and_eq_true] at h
  obtain ⟨h1, h2, h3⟩ := h
  refine ⟨h1, by simpa using h2, ?_⟩
  cases ho : ops[i]? with
  | none => rw [ho] at h3; simp at h3
  | some o => rw [ho] at h3; exact ⟨o, rfl, by simpa using h3⟩
theorem undone_lt {listed : Array Bool} {i n : Nat} (hi : i < n) (h : listed.getD i true = false) : undone n (listed.setIfInBounds i true) < undone n listed := by
  have hs : i < listed.size := by
    by_cases e : i < listed.size
    · exact e
    · rw [Array.getD_eq_getD_getElem?, Array.getElem?_eq_none (by omega)] at h; simp at h
  refine filter_lt (fun j hj => ?_) (List.mem_range.2 hi) (by simp only [h]; rfl) ?_
  · by_cases e : j = i
    · subst e; simp only [h]; rfl
    · have : (listed.setIfInBounds i true).getD j true = listed.getD j true := by
        rw [Array.getD_eq_getD_getElem?, Array.getD_eq_getD_getElem?, Array.getElem?_setIfInBounds, if_neg (fun h => e h.symm)]
      rw [this] at hj; exact hj
  · have : (listed.setIfInBounds i true).getD i true = true := by
      rw [Array.getD_eq_getD_getElem?, Array.getElem?_setIfInBounds, if_pos rfl, if_pos hs]; rfl
    rw [this]; rfl
theorem inv_any (I : Array Bool → Act → World → Prop)
    (hstep : ∀ listed a w, I listed a w → ∀ i ∈ Region.ready md ops listed, wpOp P ops Q i (I (listed.setIfInBounds i true)) a w)
    (hend : ∀ listed a w, I listed a w → Region.ready md ops listed = [] → Q .normal a w) :
    ∀ fuel listed a w, undone ops.size listed ≤ fuel → I listed a w → wpAny P md ops Q fuel listed a w := by
  intro fuel
  induction fuel with
  | zero =>
    intro listed a w hf hI
    have hr : Region.ready md ops listed = [] := by
      cases e : Region.ready md ops listed with
      | nil => rfl
      | cons i l =>
        obtain ⟨h1, h2, _⟩ := ready_is (i := i) (by rw [e]; exact List.mem_cons_self)
        have := undone_lt h1 h2
        omega
    exact ⟨hr, hend _ _ _ hI hr⟩
  | succ fuel ih =>
    intro listed a w hf hI
    refine ⟨hend _ _ _ hI, fun i hi => wpOp_mono (fun a' w' h => ih _ a' w' ?_ h) (hstep _ _ _ hI i hi)⟩
    obtain ⟨h1, h2, _⟩ := ready_is hi
    have := undone_lt h1 h2
    omega
end

/-! the frame while a region runs: each operation's slot holds something -/
def putL : List (Nat × Option Tmp) → Act → (Nat → Value) → Act
  | [], a, _ => a
  | (i, d) :: l, a, vs => putL l (a.put d (vs i)) vs
def upd (vs : Nat → Value) (i : Nat) (v : Value) : Nat → Value := fun j => if j = i then v else vs j
theorem put_put (a : Act) (d : Option Tmp) (v u : Value) : (a.put d v).put d u = a.put d u := by
  cases d with
  | none => rfl
  | some t => simp [Act.put]
theorem put_comm (a : Act) (d e : Option Tmp) (v u : Value) (h : d ≠ e ∨ d = none) : (a.put d v).put e u = (a.put e u).put d v := by
  cases d with
  | none => cases e <;> rfl
  | some t =>
    cases e with
    | none => rfl
    | some s =>
      have hne : t ≠ s := by
        rcases h with h | h
        · exact fun e => h (by rw [e])
        · cases h
      simp only [Act.put]
      congr 1
      exact Array.setIfInBounds_comm _ _ hne
def apart (d : Option Tmp) (l : List (Nat × Option Tmp)) : Bool := d.isNone || l.all fun x => x.2 != d
theorem putL_put {l : List (Nat × Option Tmp)} {d : Option Tmp} (h : apart d l = true) (a : Act) (vs : Nat → Value) (v : Value) : (putL l a vs).put d v = putL l (a.put d v) vs := by
  induction l generalizing a with
  | nil => rfl
  | cons x l ih =>
    obtain ⟨i, e⟩ := x
    unfold apart at h
    rw [Bool.or_eq_true] at h
    rw [putL, putL, ih (by
      unfold apart; rw [Bool.or_eq_true]
      rcases h with h | h
      · exact .inl h
      · rw [List.all_cons, Bool.and_eq_true] at h; exact .inr h.2)]
    rw [put_comm]
    rcases h with h | h
    · cases d with
      | none => cases e with
        | none => exact .inr rfl
        | some t => exact .inl (by simp)
      | some t => cases h
    · rw [List.all_cons, Bool.and_eq_true] at h
      exact .inl (by simpa using h.1)
def okL : List (Nat × Option Tmp) → Bool
  | [] => true
  | (i, d) :: l => apart d l && (l.all fun x => x.1 != i) && okL l
theorem putL_upd_out {l : List (Nat × Option Tmp)} {i : Nat} (h : l.all (fun x => x.1 != i) = true) (a : Act) (vs : Nat → Value) (v : Value) : putL l a (upd vs i v) = putL l a vs := by
  induction l generalizing a with
  | nil => rfl
  | cons x l ih =>
    obtain ⟨j, d⟩ := x
    rw [List.all_cons, Bool.and_eq_true] at h
    have hj : j ≠ i := by simpa using h.1
    rw [putL, putL, ih h.2, show upd vs i v j = vs j from if_neg hj]
theorem putL_upd {l : List (Nat × Option Tmp)} {i : Nat} {d : Option Tmp} (hl : okL l = true) (hm : (i, d) ∈ l) (a : Act) (vs : Nat → Value) (v : Value) : (putL l a vs).put d v = putL l a (upd vs i v) := by
  induction l generalizing a with
  | nil => cases hm
  | cons x l ih =>
    obtain ⟨j, e⟩ := x
    rw [okL, Bool.and_eq_true, Bool.and_eq_true] at hl
    obtain ⟨⟨h1, h2⟩, h3⟩ := hl
    rw [putL, putL]
    rcases List.mem_cons.1 hm with e1 | e1
    · injection e1 with e1 e2
      subst e1 e2
      rw [putL_put h1, put_put, putL_upd_out h2, show upd vs i v i = v from if_pos rfl]
    · have hji : j ≠ i := by
        have := List.all_eq_true.1 h2 _ e1
        intro e2; subst e2; simp at this
      rw [ih h3 e1, show upd vs i v j = vs j from if_neg hji]
/-- what the slots hold to begin with -/
def held (a : Act) (ops : Array Oper) (i : Nat) : Value := match (ops[i]?).bind (·.dst) with
  | some t => a.tmps.getD t undef
  | none => undef
theorem put_same (a : Act) (d : Option Tmp) (v : Value) (h : ∀ t, d = some t → v = a.tmps.getD t undef) : a.put d v = a := by
  cases d with
  | none => rfl
  | some t =>
    have := h t rfl
    subst this
    obtain ⟨tmps, defers⟩ := a
    simp only [Act.put]
    congr 1
    apply Array.ext
    · simp
    · intro i h1 h2
      rw [Array.getElem_setIfInBounds]
      split
      · rename_i e; subst e; simp [h2]
      · rfl
theorem putL_same (a : Act) (vs : Nat → Value) : ∀ l : List (Nat × Option Tmp), (∀ i t, (i, some t) ∈ l → vs i = a.tmps.getD t undef) → putL l a vs = a := by
  intro l
  induction l with
  | nil => intro _; rfl
  | cons x l ih =>
    obtain ⟨i, d⟩ := x
    intro h
    rw [putL, put_same a d (vs i) (fun t e => h i t (by rw [e]; exact List.mem_cons_self))]
    exact ih (fun i t hm => h i t (List.mem_cons_of_mem _ hm))

/-! the operations of a region, their slots, what each waits for -/
def dsts (ops : Array Oper) : List (Nat × Option Tmp) := (List.range ops.size).map fun i => (i, (ops[i]?).bind (·.dst))
def waits (ops : Array Oper) (i : Nat) : List Nat := match ops[i]? with
  | some o => (o.after.toList.filter (Region.binds .any)).map (·.on)
  | none => []
theorem waits_listed {ops : Array Oper} {listed : Array Bool} {i j : Nat} {o : Oper} (ho : ops[i]? = some o) (h : o.after.all (fun e => !Region.binds .any e || listed.getD e.on false) = true) (hj : j ∈ waits ops i) : listed.getD j false = true := by
  unfold waits at hj
  rw [ho] at hj
  simp only [List.mem_map, List.mem_filter] at hj
  obtain ⟨e, ⟨h1, h2⟩, rfl⟩ := hj
  rw [Array.all_eq_true_iff_forall_mem] at h
  have := h e (by simpa using h1)
  rw [h2] at this
  simpa using this
/-- one operation, looked at once: from a world and from what it waits for, to the world and the value behind it -/
def StepOk (P : Program) (ops : Array Oper) (Q : Exit → Act → World → Prop) (a : Act) (S : (Nat → Bool) → World → Prop) (D : Nat → Value → World → Prop) (i : Nat) (o : Oper) : Prop :=
  ∀ vs w (done : Nat → Bool), S done w → (∀ j, (waits ops i).contains j = true → D j (vs j) w) → (∀ j, (waits ops j).contains i = true → done j = false) → ∀ K : Act → World → Prop,
    (∀ v w' a', (putL (dsts ops) a vs).put o.dst v = a' → S (fun j => if j = i then true else done j) w' → D i v w' → (∀ j v', D j v' w → D j v' w') → K a' w') →
    if Region.wanted o (yielded ops (putL (dsts ops) a vs).tmps) = true then Oper.wp P o (putL (dsts ops) a vs) w K Q else K ((putL (dsts ops) a vs).put o.dst undef) w
theorem all_listed {ops : Array Oper} {listed : Array Bool} (hlow : ((List.range ops.size).all fun i => (waits ops i).all (· < i)) = true) (hsz : listed.size = ops.size) (hr : Region.ready .any ops listed = []) : ∀ j, j < ops.size → listed.getD j false = true := by
  intro j
  induction j using Nat.strongRecOn with
  | ind j ih =>
    intro hj
    cases hl : listed.getD j false with
    | true => rfl
    | false =>
      exfalso
      have hmem : j ∈ Region.ready .any ops listed := by
        unfold Region.ready
        rw [List.mem_filter, List.mem_range, Bool.and_eq_true]
        refine ⟨hj, ?_, ?_⟩
        · rw [Array.getD_eq_getD_getElem?, Array.getElem?_eq_getElem (by omega)] at hl ⊢
          simpa using hl
        · rw [Array.getElem?_eq_getElem hj]
          simp only [Option.map_some, Option.getD_some]
          rw [Array.all_eq_true_iff_forall_mem]
          intro e he
          by_cases hb : Region.binds .any e = true
          · have hw : e.on ∈ waits ops j := by
              unfold waits
              rw [Array.getElem?_eq_getElem hj]
              simp only [List.mem_map, List.mem_filter]
              exact ⟨e, ⟨by simpa using he, hb⟩, rfl⟩
            have h1 := List.all_eq_true.1 hlow j (List.mem_range.2 hj)
            have h2 : e.on < j := by simpa using List.all_eq_true.1 h1 _ hw
            rw [ih _ h2 (by omega), hb]; rfl
          · rw [Bool.eq_false_iff.2 hb]; rfl
      rw [hr] at hmem
      cases hmem
/-- the rule: S is what holds of the world, by what has been done; D what an operation leaves in its slot. The operations are numbered; is: 0, 1, .. -/
theorem wp_region_inv0 {P : Program} {ops : Array Oper} {Q : Exit → Act → World → Prop} {id : Nat} {a : Act} {w : World} (S : (Nat → Bool) → World → Prop) (D : Nat → Value → World → Prop)
    (hm : P.follows .mixedOrders = true) (hok : okL (dsts ops) = true) (hlow : ((List.range ops.size).all fun i => (waits ops i).all (· < i)) = true) (hS : S (fun _ => false) w.drew) (hs : ∀ i o, ops[i]? = some o → StepOk P ops Q a S D i o)
    (hend : ∀ vs w' done, (∀ j, j < ops.size → done j = true) → S done w' → (∀ j, j < ops.size → D j (vs j) w') → Q .normal (putL (dsts ops) a vs) w') : (Code.region id ops true).wp P Q a w := by
  have hin : ∀ i o, ops[i]? = some o → (i, o.dst) ∈ dsts ops := fun i o ho => by
    unfold dsts
    rw [List.mem_map]
    exact ⟨i, List.mem_range.2 (by by_cases e : i < ops.size; exact e; rw [Array.getElem?_eq_none (by omega)] at ho; cases ho), by rw [ho]; rfl⟩
  have hget : ∀ (listed : Array Bool) i j, listed.size = ops.size → i < ops.size → (listed.setIfInBounds i true).getD j false = if j = i then true else listed.getD j false := fun listed i j hsz hi => by
    rw [Array.getD_eq_getD_getElem?, Array.getD_eq_getD_getElem?, Array.getElem?_setIfInBounds]
    by_cases e : j = i
    · subst e; rw [if_pos rfl, if_pos (by omega), if_pos rfl]; rfl
    · rw [if_neg (fun h => e h.symm), if_neg e]
  refine wp_region_any hm (inv_any (fun listed a' w' => listed.size = ops.size ∧ (∀ j, j < ops.size → listed.getD j false = true → ∀ k ∈ waits ops j, listed.getD k false = true) ∧ ∃ vs, a' = putL (dsts ops) a vs ∧ S (fun j => listed.getD j false) w' ∧ ∀ j, j < ops.size → listed.getD j false = true → D j (vs j) w') ?_ ?_ _ _ _ _ ?_ ?_)
  · rintro listed a' w' ⟨hsz, hcl, vs, rfl, hS, hD⟩ i hi
    obtain ⟨h1, h2, o, ho, h3⟩ := ready_is hi
    have hst := hs i o ho
    have hno : listed.getD i false = false := by
      rw [Array.getD_eq_getD_getElem?, Array.getElem?_eq_getElem (by omega)] at h2 ⊢
      simpa using h2
    have hbound : ∀ j, listed.getD j false = true → j < ops.size := fun j hj => by
      by_cases e : j < ops.size
      · exact e
      · rw [Array.getD_eq_getD_getElem?, Array.getElem?_eq_none (by omega)] at hj; simp at hj
    refine wpOp_step ho (fun K hK => ?_)
    refine hst vs w' _ hS (fun j hj => ?_) (fun j hj => ?_) K (fun v w2 a2 ha hS2 hD2 hk => hK _ _ ⟨by simpa using hsz, fun j hj hl k hk2 => ?_, upd vs i v, ?_, ?_, fun j hj hl => ?_⟩)
    · have hjl := waits_listed ho h3 (by simpa using hj)
      exact hD j (hbound j hjl) hjl
    · cases e : listed.getD j false with
      | false => rfl
      | true =>
        have := hcl j (hbound j e) e i (by simpa using hj)
        rw [hno] at this; cases this
    · rw [hget listed i _ hsz h1] at hl ⊢
      by_cases e : k = i
      · rw [if_pos e]
      · rw [if_neg e]
        by_cases e2 : j = i
        · subst e2; exact waits_listed ho h3 hk2
        · rw [if_neg e2] at hl; exact hcl j hj hl k hk2
    · rw [← ha]; exact putL_upd hok (hin i o ho) a vs v
    · have e : (fun j => (listed.setIfInBounds i true).getD j false) = fun j => if j = i then true else listed.getD j false := funext fun j => hget listed i j hsz h1
      show S (fun j => (listed.setIfInBounds i true).getD j false) w2
      rw [e]; exact hS2
    · rw [hget listed i _ hsz h1] at hl
      by_cases e : j = i
      · subst e; rw [show upd vs j v j = v from if_pos rfl]; exact hD2
      · rw [show upd vs i v j = vs j from if_neg e]
        rw [if_neg e] at hl
        exact hk j _ (hD j hj hl)
  · rintro listed a' w' ⟨hsz, hcl, vs, rfl, hS, hD⟩ hr
    have ha := all_listed hlow hsz hr
    exact hend vs w' _ ha hS (fun j hj => hD j hj (ha j hj))
  · unfold undone
    have := List.length_filter_le (fun i => !(Array.replicate ops.size false).getD i true) (List.range ops.size)
    simpa using this
  · have h0 : ∀ j, (Array.replicate ops.size false).getD j false = false := fun j => by
      rw [Array.getD_eq_getD_getElem?, Array.getElem?_replicate]
      split <;> rfl
    refine ⟨by simp, fun j hj hl => (by rw [h0] at hl; cases hl), held a ops, ?_, ?_, fun j hj hl => (by rw [h0] at hl; cases hl)⟩
    · symm
      refine putL_same a _ _ (fun i t hm => ?_)
      unfold dsts at hm
      rw [List.mem_map] at hm
      obtain ⟨k, _, e⟩ := hm
      injection e with e1 e2
      subst e1
      unfold held; rw [e2]
    · have e : (fun j => (Array.replicate ops.size false).getD j false) = fun _ => false := funext h0
      show S (fun j => (Array.replicate ops.size false).getD j false) w.drew
      rw [e]; exact hS
/-! the same over a list of operations, as a walk bears them -/
def dstsL : Nat → List Oper → List (Nat × Option Tmp)
  | _, [] => []
  | i, o :: l => (i, o.dst) :: dstsL (i + 1) l
theorem dsts_list (l : List Oper) : dsts l.toArray = dstsL 0 l := by
  have key : ∀ (l : List Oper) k, dstsL k l = (List.range l.length).map fun i => (i + k, (l[i]?).bind (·.dst)) := by
    intro l
    induction l with
    | nil => intro k; rfl
    | cons o l ih =>
      intro k
      rw [dstsL, ih, List.length_cons, List.range_succ_eq_map, List.map_cons, List.map_map]
      refine congr (congrArg _ ?_) (List.map_congr_left fun i _ => ?_)
      · simp
      · simp only [Function.comp, List.getElem?_cons_succ]
        rw [show i + (k + 1) = i.succ + k by omega]
  rw [key]
  unfold dsts
  simp
/-- the frame's slots while the region runs -/
def putT : List (Nat × Option Tmp) → List Value → (Nat → Value) → List Value
  | [], ts, _ => ts
  | (_, none) :: l, ts, vs => putT l ts vs
  | (i, some t) :: l, ts, vs => putT l (ts.set t (vs i)) vs
theorem putL_list (vs : Nat → Value) (df : List Deferred) : ∀ (l : List (Nat × Option Tmp)) (ts : List Value), putL l ⟨ts.toArray, df⟩ vs = ⟨(putT l ts vs).toArray, df⟩ := by
  intro l
  induction l with
  | nil => intro ts; rfl
  | cons x l ih =>
    obtain ⟨i, d⟩ := x
    intro ts
    cases d with
    | none => rw [putL, putT]; exact ih ts
    | some t =>
      rw [putL, putT, ← ih]
      simp [Act.put]
/-- one operation: the goal of its step -/
def StepL (P : Program) (l : List Oper) (Q : Exit → Act → World → Prop) (ts : List Value) (df : List Deferred) (S : (Nat → Bool) → World → Prop) (D : Nat → Value → World → Prop) (i : Nat) (o : Oper) : Prop :=
  ∀ vs w (done : Nat → Bool), S done w → (∀ j, (waits l.toArray i).contains j = true → D j (vs j) w) → (∀ j, (waits l.toArray j).contains i = true → done j = false) → ∀ K : Act → World → Prop,
    (∀ v w' a', (⟨(putT (dstsL 0 l) ts vs).toArray, df⟩ : Act).put o.dst v = a' → S (fun j => if j = i then true else done j) w' → D i v w' → (∀ j v', D j v' w → D j v' w') → K a' w') →
    if Region.wanted o (yielded l.toArray (putT (dstsL 0 l) ts vs).toArray) = true then Oper.wp P o ⟨(putT (dstsL 0 l) ts vs).toArray, df⟩ w K Q else K ((⟨(putT (dstsL 0 l) ts vs).toArray, df⟩ : Act).put o.dst undef) w
def StepsL (P : Program) (l : List Oper) (Q : Exit → Act → World → Prop) (ts : List Value) (df : List Deferred) (S : (Nat → Bool) → World → Prop) (D : Nat → Value → World → Prop) : Nat → List Oper → Prop
  | _, [] => True
  | i, o :: r => StepL P l Q ts df S D i o ∧ StepsL P l Q ts df S D (i + 1) r
theorem StepsL.get {P : Program} {l : List Oper} {Q : Exit → Act → World → Prop} {ts : List Value} {df : List Deferred} {S : (Nat → Bool) → World → Prop} {D : Nat → Value → World → Prop} : ∀ (r : List Oper) (k : Nat), StepsL P l Q ts df S D k r → ∀ i o, r[i]? = some o → StepL P l Q ts df S D (i + k) o := by
  intro r
  induction r with
  | nil => intro k _ i o h; simp at h
  | cons x r ih =>
    intro k hs i o h
    cases i with
    | zero =>
      obtain rfl : x = o := by simpa using h
      rw [Nat.zero_add]; exact hs.1
    | succ i =>
      have := ih (k + 1) hs.2 i o (by simpa using h)
      rwa [show i + 1 + k = i + (k + 1) by omega]
/-- THE RULE: S is what holds of the world, by what has been done; D what an operation leaves in its slot -/
theorem wp_region_inv {P : Program} {l : List Oper} {Q : Exit → Act → World → Prop} {id : Nat} {ts : List Value} {df : List Deferred} {w : World} (S : (Nat → Bool) → World → Prop) (D : Nat → Value → World → Prop)
    (hm : P.follows .mixedOrders = true) (hok : (okL (dstsL 0 l) && ((List.range l.length).all fun i => (waits l.toArray i).all (· < i))) = true) (hS : S (fun _ => false) w.drew) (hs : StepsL P l Q ts df S D 0 l)
    (hend : ∀ vs w' done, (∀ j, j < l.length → done j = true) → S done w' → (∀ j, j < l.length → D j (vs j) w') → Q .normal ⟨(putT (dstsL 0 l) ts vs).toArray, df⟩ w') : (Code.region id l.toArray true).wp P Q ⟨ts.toArray, df⟩ w := by
  rw [Bool.and_eq_true] at hok
  refine wp_region_inv0 S D hm (by rw [dsts_list]; exact hok.1) (by simpa using hok.2) hS (fun i o ho => ?_) (fun vs w' done h1 h2 h3 => ?_)
  · have := StepsL.get l 0 hs i o (by simpa using ho)
    intro vs w done h1 h2 h3 K hK
    rw [dsts_list, putL_list] at hK ⊢
    exact this vs w done h1 h2 h3 K hK
  · rw [dsts_list, putL_list]
    exact hend vs w' done (fun j hj => h1 j (by simpa using hj)) h2 (fun j hj => h3 j (by simpa using hj))
end Go.Proofs.YthdjpmiohfaphaaGreatDoor.inv
