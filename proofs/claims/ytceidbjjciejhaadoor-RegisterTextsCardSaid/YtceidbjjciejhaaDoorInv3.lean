/- A drawn region by an invariant, third form: what holds of the world may speak of the slots. No program in this text. -/
import Derived.Test.YtceidbjjciejhaaDoorInv
namespace Go.Proofs.YtceidbjjciejhaaDoor.inv

def StepOk3 (P : Program) (ops : Array Oper) (Q : Exit → Act → World → Prop) (a : Act) (S : (Nat → Bool) → (Nat → Value) → World → Prop) (D : Nat → Value → World → Prop) (i : Nat) (o : Oper) : Prop :=
  ∀ vs w (done : Nat → Bool), S done vs w → (∀ j, (waits ops i).contains j = true → D j (vs j) w) → (∀ j, (waits ops j).contains i = true → done j = false) → (∀ j, j < ops.size → done j = false → vs j = held a ops j) → (∀ j, j < ops.size → done j = true → ∀ k, (waits ops j).contains k = true → done k = true) → done i = false → ∀ K : Act → World → Prop,
    (∀ v w' a', (putL (dsts ops) a vs).put o.dst v = a' → S (fun j => if j = i then true else done j) (upd vs i v) w' → D i v w' → (∀ j v', j ≠ i → done j = true → D j v' w → D j v' w') → K a' w') →
    if Region.wanted o (yielded ops (putL (dsts ops) a vs).tmps) = true then Oper.wp P o (putL (dsts ops) a vs) w K Q else K ((putL (dsts ops) a vs).put o.dst undef) w
/-- the rule: S is what holds of the world, by what has been done; D what an operation leaves in its slot. The operations are numbered; is: 0, 1, .. -/
theorem wp_region_inv30 {P : Program} {ops : Array Oper} {Q : Exit → Act → World → Prop} {id : Nat} {a : Act} {w : World} (S : (Nat → Bool) → (Nat → Value) → World → Prop) (D : Nat → Value → World → Prop)
    (hm : P.follows .mixedOrders = true) (hok : okL (dsts ops) = true) (hlow : ((List.range ops.size).all fun i => (waits ops i).all (· < i)) = true) (hS : S (fun _ => false) (held a ops) w.drew) (hs : ∀ i o, ops[i]? = some o → StepOk3 P ops Q a S D i o)
    (hend : ∀ vs w' done, (∀ j, j < ops.size → done j = true) → S done vs w' → (∀ j, j < ops.size → D j (vs j) w') → Q .normal (putL (dsts ops) a vs) w') : (Code.region id ops true).wp P Q a w := by
  have hin : ∀ i o, ops[i]? = some o → (i, o.dst) ∈ dsts ops := fun i o ho => by
    unfold dsts
    rw [List.mem_map]
    exact ⟨i, List.mem_range.2 (by by_cases e : i < ops.size; exact e; rw [Array.getElem?_eq_none (by omega)] at ho; cases ho), by rw [ho]; rfl⟩
  have hget : ∀ (listed : Array Bool) i j, listed.size = ops.size → i < ops.size → (listed.setIfInBounds i true).getD j false = if j = i then true else listed.getD j false := fun listed i j hsz hi => by
    rw [Array.getD_eq_getD_getElem?, Array.getD_eq_getD_getElem?, Array.getElem?_setIfInBounds]
    by_cases e : j = i
    · subst e; rw [if_pos rfl, if_pos (by omega), if_pos rfl]; rfl
    · rw [if_neg (fun h => e h.symm), if_neg e]
  refine wp_region_any hm (inv_any (fun listed a' w' => listed.size = ops.size ∧ (∀ j, j < ops.size → listed.getD j false = true → ∀ k ∈ waits ops j, listed.getD k false = true) ∧ ∃ vs, a' = putL (dsts ops) a vs ∧ S (fun j => listed.getD j false) vs w' ∧ (∀ j, j < ops.size → listed.getD j false = true → D j (vs j) w') ∧ ∀ j, j < ops.size → listed.getD j false = false → vs j = held a ops j) ?_ ?_ _ _ _ _ ?_ ?_)
  · rintro listed a' w' ⟨hsz, hcl, vs, rfl, hS, hD, hH⟩ i hi
    obtain ⟨h1, h2, o, ho, h3⟩ := ready_is hi
    have hst := hs i o ho
    have hno : listed.getD i false = false := by
      rw [Array.getD_eq_getD_getElem?, Array.getElem?_eq_getElem (by omega)] at h2 ⊢
      simpa using h2
    have hbound : ∀ j, listed.getD j false = true → j < ops.size := fun j hj => by
      by_cases e : j < ops.size
      · exact e
      · rw [Array.getD_eq_getD_getElem?, Array.getElem?_eq_none (by omega)] at hj; simp at hj
    refine wpOp_step ho (fun K hK => ?_)
    refine hst vs w' _ hS (fun j hj => ?_) (fun j hj => ?_) hH (fun j hj hl k hk => hcl j hj hl k (by simpa using hk)) hno K (fun v w2 a2 ha hS2 hD2 hk => hK _ _ ⟨by simpa using hsz, fun j hj hl k hk2 => ?_, upd vs i v, ?_, ?_, fun j hj hl => ?_, fun j hj hl => ?_⟩)
    · have hjl := waits_listed ho h3 (by simpa using hj)
      exact hD j (hbound j hjl) hjl
    · cases e : listed.getD j false with
      | false => rfl
      | true =>
        have := hcl j (hbound j e) e i (by simpa using hj)
        rw [hno] at this; cases this
    · rw [hget listed i _ hsz h1] at hl ⊢
      by_cases e : k = i
      · rw [if_pos e]
      · rw [if_neg e]
        by_cases e2 : j = i
        · subst e2; exact waits_listed ho h3 hk2
        · rw [if_neg e2] at hl; exact hcl j hj hl k hk2
    · rw [← ha]; exact putL_upd hok (hin i o ho) a vs v
    · have e : (fun j => (listed.setIfInBounds i true).getD j false) = fun j => if j = i then true else listed.getD j false := funext fun j => hget listed i j hsz h1
      show S (fun j => (listed.setIfInBounds i true).getD j false) (upd vs i v) w2
      rw [e]; exact hS2
    · rw [hget listed i _ hsz h1] at hl
      by_cases e : j = i
      · subst e; rw [show upd vs j v j = v from if_pos rfl]; exact hD2
      · rw [show upd vs i v j = vs j from if_neg e]
        rw [if_neg e] at hl
        exact hk j _ e hl (hD j hj hl)
    · rw [hget listed i _ hsz h1] at hl
      by_cases e : j = i
      · rw [if_pos e] at hl; cases hl
      · rw [if_neg e] at hl
        rw [show upd vs i v j = vs j from if_neg e]
        exact hH j hj hl
  · rintro listed a' w' ⟨hsz, hcl, vs, rfl, hS, hD, hH⟩ hr
    have ha := all_listed hlow hsz hr
    exact hend vs w' _ ha hS (fun j hj => hD j hj (ha j hj))
  · unfold undone
    have := List.length_filter_le (fun i => !(Array.replicate ops.size false).getD i true) (List.range ops.size)
    simpa using this
  · have h0 : ∀ j, (Array.replicate ops.size false).getD j false = false := fun j => by
      rw [Array.getD_eq_getD_getElem?, Array.getElem?_replicate]
      split <;> rfl
    refine ⟨by simp, fun j hj hl => (by rw [h0] at hl; cases hl), held a ops, ?_, ?_, fun j hj hl => (by rw [h0] at hl; cases hl), fun _ _ _ => rfl⟩
    · symm
      refine putL_same a _ _ (fun i t hm => ?_)
      unfold dsts at hm
      rw [List.mem_map] at hm
      obtain ⟨k, _, e⟩ := hm
      injection e with e1 e2
      subst e1
      unfold held; rw [e2]
    · have e : (fun j => (Array.replicate ops.size false).getD j false) = fun _ => false := funext h0
      show S (fun j => (Array.replicate ops.size false).getD j false) (held a ops) w.drew
      rw [e]; exact hS
/-- one operation: the goal of its step -/
def StepL3 (P : Program) (l : List Oper) (Q : Exit → Act → World → Prop) (ts : List Value) (df : List Deferred) (S : (Nat → Bool) → (Nat → Value) → World → Prop) (D : Nat → Value → World → Prop) (i : Nat) (o : Oper) : Prop :=
  ∀ vs w (done : Nat → Bool), S done vs w → (∀ j, (waits l.toArray i).contains j = true → D j (vs j) w) → (∀ j, (waits l.toArray j).contains i = true → done j = false) → (∀ j, j < l.length → done j = false → vs j = held ⟨ts.toArray, df⟩ l.toArray j) → (∀ j, j < l.length → done j = true → ∀ k, (waits l.toArray j).contains k = true → done k = true) → done i = false → ∀ K : Act → World → Prop,
    (∀ v w' a', (⟨(putT (dstsL 0 l) ts vs).toArray, df⟩ : Act).put o.dst v = a' → S (fun j => if j = i then true else done j) (upd vs i v) w' → D i v w' → (∀ j v', j ≠ i → done j = true → D j v' w → D j v' w') → K a' w') →
    if Region.wanted o (yielded l.toArray (putT (dstsL 0 l) ts vs).toArray) = true then Oper.wp P o ⟨(putT (dstsL 0 l) ts vs).toArray, df⟩ w K Q else K ((⟨(putT (dstsL 0 l) ts vs).toArray, df⟩ : Act).put o.dst undef) w
def StepsL3 (P : Program) (l : List Oper) (Q : Exit → Act → World → Prop) (ts : List Value) (df : List Deferred) (S : (Nat → Bool) → (Nat → Value) → World → Prop) (D : Nat → Value → World → Prop) : Nat → List Oper → Prop
  | _, [] => True
  | i, o :: r => StepL3 P l Q ts df S D i o ∧ StepsL3 P l Q ts df S D (i + 1) r
theorem StepsL3.get {P : Program} {l : List Oper} {Q : Exit → Act → World → Prop} {ts : List Value} {df : List Deferred} {S : (Nat → Bool) → (Nat → Value) → World → Prop} {D : Nat → Value → World → Prop} : ∀ (r : List Oper) (k : Nat), StepsL3 P l Q ts df S D k r → ∀ i o, r[i]? = some o → StepL3 P l Q ts df S D (i + k) o := by
  intro r
  induction r with
  | nil => intro k _ i o h; simp at h
  | cons x r ih =>
    intro k hs i o h
    cases i with
    | zero =>
      obtain rfl : x = o := by simpa using h
      rw [Nat.zero_add]; exact hs.1
    | succ i =>
      have := ih (k + 1) hs.2 i o (by simpa using h)
      rwa [show i + 1 + k = i + (k + 1) by omega]
/-- THE RULE: S is what holds of the world, by what has been done; D what an operation leaves in its slot -/
theorem wp_region_inv3 {P : Program} {l : List Oper} {Q : Exit → Act → World → Prop} {id : Nat} {ts : List Value} {df : List Deferred} {w : World} (S : (Nat → Bool) → (Nat → Value) → World → Prop) (D : Nat → Value → World → Prop)
    (hm : P.follows .mixedOrders = true) (hok : (okL (dstsL 0 l) && ((List.range l.length).all fun i => (waits l.toArray i).all (· < i))) = true) (hS : S (fun _ => false) (held ⟨ts.toArray, df⟩ l.toArray) w.drew) (hs : StepsL3 P l Q ts df S D 0 l)
    (hend : ∀ vs w' done, (∀ j, j < l.length → done j = true) → S done vs w' → (∀ j, j < l.length → D j (vs j) w') → Q .normal ⟨(putT (dstsL 0 l) ts vs).toArray, df⟩ w') : (Code.region id l.toArray true).wp P Q ⟨ts.toArray, df⟩ w := by
  rw [Bool.and_eq_true] at hok
  refine wp_region_inv30 S D hm (by rw [dsts_list]; exact hok.1) (by simpa using hok.2) hS (fun i o ho => ?_) (fun vs w' done h1 h2 h3 => ?_)
  · have := StepsL3.get l 0 hs i o (by simpa using ho)
    intro vs w done h1 h2 h3 h4 h5 h6 K hK
    rw [dsts_list, putL_list] at hK ⊢
    exact this vs w done h1 h2 h3 (fun j hj hd => h4 j (by simpa using hj) hd) (fun j hj hd => h5 j (by simpa using hj) hd) h6 K hK
  · rw [dsts_list, putL_list]
    exact hend vs w' done (fun j hj => h1 j (by simpa using hj)) h2 (fun j hj => h3 j (by simpa using hj))
end Go.Proofs.YtceidbjjciejhaaDoor.inv
