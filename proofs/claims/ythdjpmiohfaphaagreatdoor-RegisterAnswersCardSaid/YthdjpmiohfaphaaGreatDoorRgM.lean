/- Plain facts on registers: the order of names, what Check, Find, Can, Add and Remove say, what Print writes and Parse reads. No program in this text. -/
import Derived.Test.YthdjpmiohfaphaaGreatDoorNetM
import Derived.Test.YthdjpmiohfaphaaGreatDoorCalM
import Derived.Test.YthdjpmiohfaphaaGreatDoorLexP
namespace Go.Proofs.YthdjpmiohfaphaaGreatDoor.reg
open lex strs net cal

/-! names, byte by byte -/
theorem bl_irr : ∀ x : List UInt8, Go.Op.bytesLess x x = false
  | [] => rfl
  | a :: x => by simp [Go.Op.bytesLess, bl_irr x]
theorem bl_trans : ∀ x y z : List UInt8, Go.Op.bytesLess x y = true → Go.Op.bytesLess y z = true → Go.Op.bytesLess x z = true
  | _, [], _, h, _ => by simp [Go.Op.bytesLess] at h
  | _, _ :: _, [], _, h => by simp [Go.Op.bytesLess] at h
  | [], _ :: _, _ :: _, _, _ => rfl
  | a :: x, b :: y, c :: z, h, k => by
    simp only [Go.Op.bytesLess, Bool.or_eq_true, Bool.and_eq_true, decide_eq_true_eq, beq_iff_eq] at h k ⊢
    rcases h with h | ⟨rfl, h⟩
    · rcases k with k | ⟨rfl, k⟩
      · exact .inl (UInt8.lt_trans h k)
      · exact .inl h
    · rcases k with k | ⟨rfl, k⟩
      · exact .inl k
      · exact .inr ⟨rfl, bl_trans x y z h k⟩
theorem bl_tri : ∀ x y : List UInt8, x = y ∨ Go.Op.bytesLess x y = true ∨ Go.Op.bytesLess y x = true
  | [], [] => .inl rfl
  | [], _ :: _ => .inr (.inl rfl)
  | _ :: _, [] => .inr (.inr rfl)
  | a :: x, b :: y => by
    simp only [Go.Op.bytesLess, Bool.or_eq_true, Bool.and_eq_true, decide_eq_true_eq, beq_iff_eq]
    by_cases e : a = b
    · subst e
      rcases bl_tri x y with h | h | h
      · exact .inl (by rw [h])
      · exact .inr (.inl (.inr ⟨rfl, h⟩))
      · exact .inr (.inr (.inr ⟨rfl, h⟩))
    · have hne : a.toNat ≠ b.toNat := fun h => e (UInt8.toNat_inj.1 h)
      rcases Nat.lt_or_gt_of_ne hne with h | h
      · exact .inr (.inl (.inl (UInt8.lt_iff_toNat_lt.2 h)))
      · exact .inr (.inr (.inl (UInt8.lt_iff_toNat_lt.2 h)))
/-- one name stands before another -/
def lt (a b : ByteArray) : Bool := Go.Op.bytesLess a.data.toList b.data.toList
theorem lt_irr (a : ByteArray) : lt a a = false := bl_irr _
theorem lt_trans {a b c : ByteArray} (h : lt a b = true) (k : lt b c = true) : lt a c = true := bl_trans _ _ _ h k
theorem lt_asym {a b : ByteArray} (h : lt a b = true) : lt b a = false := by
  cases e : lt b a with
  | false => rfl
  | true => have := lt_trans h e; rw [lt_irr] at this; cases this
theorem lt_ne {a b : ByteArray} (h : lt a b = true) : a ≠ b := fun e => by rw [e, lt_irr] at h; cases h
theorem lt_tri (a b : ByteArray) : a = b ∨ lt a b = true ∨ lt b a = true := by
  rcases bl_tri a.data.toList b.data.toList with h | h | h
  · exact .inl (ByteArray.ext (Array.ext' h))
  · exact .inr (.inl h)
  · exact .inr (.inr h)

/-! people -/
structure Pn where
  nm : ByteArray
  co : Int
  sk : Int
  fr : Int
  un : Int
instance : Inhabited Pn := ⟨⟨ByteArray.empty, 0, 0, 0, 0⟩⟩
/-- what is wrong with a person; 0: nothing -/
def pnE (p : Pn) : Int :=
  if nameB p.nm.data.toList = false then 3
  else if ¬ ((0 ≤ p.co ∧ p.co ≤ 7) ∧ 0 ≤ p.sk ∧ p.sk ≤ 31) then 5
  else if ¬ (0 ≤ p.fr ∧ p.fr < p.un ∧ p.un ≤ 16777216) then 11 else 0
theorem pnE_zero {p : Pn} : pnE p = 0 ↔ nameB p.nm.data.toList = true ∧ ((0 ≤ p.co ∧ p.co ≤ 7) ∧ 0 ≤ p.sk ∧ p.sk ≤ 31) ∧ 0 ≤ p.fr ∧ p.fr < p.un ∧ p.un ≤ 16777216 := by
  unfold pnE
  cases h : nameB p.nm.data.toList with
  | false => simp
  | true =>
    rw [if_neg (by simp)]
    by_cases h1 : (0 ≤ p.co ∧ p.co ≤ 7) ∧ 0 ≤ p.sk ∧ p.sk ≤ 31
    · rw [if_neg (fun q => q h1)]
      by_cases h2 : 0 ≤ p.fr ∧ p.fr < p.un ∧ p.un ≤ 16777216
      · rw [if_neg (fun q => q h2)]; exact ⟨fun _ => ⟨rfl, h1, h2⟩, fun _ => rfl⟩
      · rw [if_pos h2]; exact ⟨fun h => absurd h (by decide), fun h => absurd h.2.2 h2⟩
    · rw [if_pos h1]; exact ⟨fun h => absurd h (by decide), fun h => absurd h.2.1 h1⟩
def nmsP (ps : List Pn) : List ByteArray := ps.map (·.nm)
def prE (ps : List Pn) (i : Nat) : Int :=
  if pnE (ps.getD i default) ≠ 0 then pnE (ps.getD i default) else if 0 < i ∧ lt (ps.getD (i - 1) default).nm (ps.getD i default).nm = false then 4 else 0
def chkP (ps : List Pn) : Int := if 64 < ps.length then 1 else fe (prE ps) ps.length
def fndP (ps : List Pn) (s : ByteArray) : Int := if chkP ps = 0 then fnd (nmsP ps) s else -1
/-- the place of a name: how many stand before it -/
def pos (ps : List Pn) (s : ByteArray) : Nat := (ps.takeWhile fun x => lt x.nm s).length
def ins (p : Pn) (ps : List Pn) : List Pn := ps.takeWhile (fun x => lt x.nm p.nm) ++ p :: ps.dropWhile (fun x => lt x.nm p.nm)
def addP (ps : List Pn) (p : Pn) : List Pn × Int :=
  if chkP ps ≠ 0 then ([], chkP ps) else if pnE p ≠ 0 then ([], pnE p) else if fnd (nmsP ps) p.nm ≠ -1 then ([], 4) else if 64 ≤ ps.length then ([], 1) else (ins p ps, 0)
def remP (ps : List Pn) (s : ByteArray) : List Pn × Int :=
  if chkP ps ≠ 0 then ([], chkP ps) else if fnd (nmsP ps) s = -1 then ([], 15) else (ps.eraseIdx (fnd (nmsP ps) s).toNat, 0)

/-! valid registers -/
def Up (ps : List Pn) : Prop := ps.Pairwise fun a b => lt a.nm b.nm = true
structure Ok (ps : List Pn) : Prop where
  len : ps.length ≤ 64
  all : ∀ p ∈ ps, pnE p = 0
  up : Up ps
theorem up_of_next : ∀ ps : List Pn, (∀ i, 0 < i → i < ps.length → lt (ps.getD (i - 1) default).nm (ps.getD i default).nm = true) → Up ps
  | [], _ => List.Pairwise.nil
  | [_], _ => List.pairwise_singleton _ _
  | x :: y :: r, h => by
    have h1 : Up (y :: r) := up_of_next (y :: r) (fun i h0 hi => by
      have := h (i + 1) (by omega) (by simpa using hi)
      obtain ⟨j, rfl⟩ : ∃ j, i = j + 1 := ⟨i - 1, by omega⟩
      simpa using this)
    have h0 : lt x.nm y.nm = true := by simpa using h 1 (by omega) (by simp)
    refine List.Pairwise.cons (fun z hz => ?_) h1
    rcases List.mem_cons.1 hz with rfl | hz
    · exact h0
    · exact lt_trans h0 (List.rel_of_pairwise_cons h1 hz)
theorem next_of_up {ps : List Pn} (h : Up ps) {i : Nat} (h0 : 0 < i) (hi : i < ps.length) : lt (ps.getD (i - 1) default).nm (ps.getD i default).nm = true := by
  have := List.pairwise_iff_getElem.1 h (i - 1) i (by omega) hi (by omega)
  rw [List.getD_eq_getElem?_getD, List.getD_eq_getElem?_getD, List.getElem?_eq_getElem hi, List.getElem?_eq_getElem (by omega : i - 1 < ps.length)]
  exact this
theorem chkP_zero {ps : List Pn} : chkP ps = 0 ↔ Ok ps := by
  unfold chkP
  by_cases hl : 64 < ps.length
  · rw [if_pos hl]; exact ⟨fun h => absurd h (by decide), fun h => absurd h.len (by omega)⟩
  · rw [if_neg hl]
    constructor
    · intro h
      have h0 := fe_zero h
      have hp : ∀ i, i < ps.length → pnE (ps.getD i default) = 0 := fun i hi => by
        have := h0 i hi
        unfold prE at this
        by_cases e : pnE (ps.getD i default) = 0
        · exact e
        · rw [if_pos e] at this; exact absurd this e
      refine ⟨by omega, fun p hp' => ?_, up_of_next ps (fun i h1 hi => ?_)⟩
      · obtain ⟨i, hi, rfl⟩ := List.mem_iff_getElem.1 hp'
        have := hp i hi
        rwa [List.getD_eq_getElem?_getD, List.getElem?_eq_getElem hi] at this
      · have := h0 i hi
        unfold prE at this
        rw [if_neg (fun q => q (hp i hi))] at this
        cases e : lt (ps.getD (i - 1) default).nm (ps.getD i default).nm with
        | true => rfl
        | false => rw [if_pos ⟨h1, e⟩] at this; exact absurd this (by decide)
    · intro h
      refine fe_ok fun i hi => ?_
      unfold prE
      have h1 : pnE (ps.getD i default) = 0 := by
        rw [List.getD_eq_getElem?_getD, List.getElem?_eq_getElem hi]; exact h.all _ (List.getElem_mem hi)
      rw [if_neg (fun q => q h1)]
      by_cases h0 : 0 < i
      · rw [if_neg (by rw [next_of_up h.up h0 hi]; simp)]
      · rw [if_neg (fun h => h0 h.1)]
/-- two ascending lists with the same members are one -/
theorem up_ext : ∀ {xs ys : List Pn}, Up xs → Up ys → (∀ z, z ∈ xs ↔ z ∈ ys) → xs = ys
  | [], [], _, _, _ => rfl
  | [], y :: _, _, _, h => by have := (h y).2 (by simp); simp at this
  | x :: _, [], _, _, h => by have := (h x).1 (by simp); simp at this
  | x :: xs, y :: ys, hx, hy, h => by
    have hx1 : ∀ z ∈ xs, lt x.nm z.nm = true := fun z hz => List.rel_of_pairwise_cons hx hz
    have hy1 : ∀ z ∈ ys, lt y.nm z.nm = true := fun z hz => List.rel_of_pairwise_cons hy hz
    have e : x = y := by
      rcases List.mem_cons.1 ((h x).1 (by simp)) with e | e
      · exact e
      · rcases List.mem_cons.1 ((h y).2 (by simp)) with e2 | e2
        · exact e2.symm
        · have := lt_asym (hx1 y e2); rw [hy1 x e] at this; cases this
    subst e
    congr 1
    refine up_ext (List.Pairwise.of_cons hx) (List.Pairwise.of_cons hy) (fun z => ⟨fun hz => ?_, fun hz => ?_⟩)
    · rcases List.mem_cons.1 ((h z).1 (List.mem_cons_of_mem _ hz)) with e | e
      · exact absurd (congrArg Pn.nm e).symm (lt_ne (hx1 z hz))
      · exact e
    · rcases List.mem_cons.1 ((h z).2 (List.mem_cons_of_mem _ hz)) with e | e
      · exact absurd (congrArg Pn.nm e).symm (lt_ne (hy1 z hz))
      · exact e
theorem mem_ins {p z : Pn} {ps : List Pn} : z ∈ ins p ps ↔ z = p ∨ z ∈ ps := by
  unfold ins
  rw [List.mem_append, List.mem_cons]
  have : z ∈ ps ↔ z ∈ ps.takeWhile (fun x => lt x.nm p.nm) ∨ z ∈ ps.dropWhile (fun x => lt x.nm p.nm) := by rw [← List.mem_append, List.takeWhile_append_dropWhile]
  rw [this]
  constructor
  · rintro (h | h | h)
    · exact .inr (.inl h)
    · exact .inl h
    · exact .inr (.inr h)
  · rintro (h | h | h)
    · exact .inr (.inl h)
    · exact .inl h
    · exact .inr (.inr h)
theorem length_ins (p : Pn) (ps : List Pn) : (ins p ps).length = ps.length + 1 := by
  unfold ins
  have := congrArg List.length (List.takeWhile_append_dropWhile (p := fun x : Pn => lt x.nm p.nm) (l := ps))
  simp only [List.length_append, List.length_cons] at this ⊢
  omega
theorem up_ins {p : Pn} : ∀ {ps : List Pn}, Up ps → (∀ x ∈ ps, x.nm ≠ p.nm) → Up (ins p ps)
  | [], _, _ => List.pairwise_singleton _ _
  | x :: r, h, hn => by
    unfold ins
    cases e : lt x.nm p.nm with
    | true =>
      simp only [List.takeWhile_cons, List.dropWhile_cons, e, if_true, List.cons_append]
      refine List.Pairwise.cons (fun z hz => ?_) (up_ins (List.Pairwise.of_cons h) (fun y hy => hn y (List.mem_cons_of_mem _ hy)))
      rcases mem_ins.1 hz with rfl | hz
      · exact e
      · exact List.rel_of_pairwise_cons h hz
    | false =>
      simp only [List.takeWhile_cons, List.dropWhile_cons, e, Bool.false_eq_true, if_false, List.nil_append]
      have h0 : lt p.nm x.nm = true := by
        rcases lt_tri p.nm x.nm with h | h | h
        · exact absurd h.symm (hn x (by simp))
        · exact h
        · rw [e] at h; cases h
      refine List.Pairwise.cons (fun z hz => ?_) h
      rcases List.mem_cons.1 hz with rfl | hz
      · exact h0
      · exact lt_trans h0 (List.rel_of_pairwise_cons h hz)
theorem fnd_names {ps : List Pn} {s : ByteArray} (h : fnd (nmsP ps) s = -1) : ∀ x ∈ ps, x.nm ≠ s := fun x hx => by
  obtain ⟨i, hi, rfl⟩ := List.mem_iff_getElem.1 hx
  have := fnd_not h i (by simpa [nmsP] using hi)
  simpa [nmsP] using this
theorem fnd_free {ps : List Pn} {s : ByteArray} (h : ∀ x ∈ ps, x.nm ≠ s) : fnd (nmsP ps) s = -1 := fnd_none (fun i hi => by
  have hi' : i < ps.length := by simpa [nmsP] using hi
  have := h ps[i] (List.getElem_mem hi')
  simpa [nmsP] using this)
theorem up_apart {ps : List Pn} (h : Up ps) {i j : Nat} (hi : i < ps.length) (hj : j < ps.length) (e : (ps[i]).nm = (ps[j]).nm) : i = j := by
  rcases Nat.lt_trichotomy i j with q | q | q
  · exact absurd e (lt_ne (List.pairwise_iff_getElem.1 h i j hi hj q))
  · exact q
  · exact absurd e.symm (lt_ne (List.pairwise_iff_getElem.1 h j i hj hi q))
theorem fnd_at {ps : List Pn} (h : Up ps) {j : Nat} (hj : j < ps.length) {s : ByteArray} (e : (ps[j]).nm = s) : fnd (nmsP ps) s = j :=
  fnd_hit (by simpa [nmsP] using hj) (by simpa [nmsP] using e) (fun i hi hij => by
    have hi' : i < ps.length := by simpa [nmsP] using hi
    have : (ps[i]).nm ≠ s := fun q => by have := up_apart h hi' hj (q.trans e.symm); omega
    simpa [nmsP] using this)
theorem Ok.ins {p : Pn} {ps : List Pn} (h : Ok ps) (hp : pnE p = 0) (hn : fnd (nmsP ps) p.nm = -1) (hl : ps.length < 64) : Ok (ins p ps) where
  len := by rw [length_ins]; omega
  all := fun z hz => by
    rcases mem_ins.1 hz with rfl | hz
    · exact hp
    · exact h.all z hz
  up := up_ins h.up (fnd_names hn)
theorem addP_ok {p : Pn} {ps : List Pn} (h : (addP ps p).2 = 0) : Ok ps ∧ pnE p = 0 ∧ fnd (nmsP ps) p.nm = -1 ∧ ps.length < 64 ∧ addP ps p = (reg.ins p ps, 0) ∧ Ok (reg.ins p ps) := by
  unfold addP at h ⊢
  by_cases h1 : chkP ps = 0
  · rw [if_neg (by simp [h1])] at h ⊢
    by_cases h2 : pnE p = 0
    · rw [if_neg (by simp [h2])] at h ⊢
      by_cases h3 : fnd (nmsP ps) p.nm = -1
      · rw [if_neg (by simp [h3])] at h ⊢
        by_cases h4 : 64 ≤ ps.length
        · rw [if_pos h4] at h; exact absurd h (by decide)
        · rw [if_neg h4]
          have := chkP_zero.1 h1
          exact ⟨this, h2, h3, by omega, rfl, this.ins h2 h3 (by omega)⟩
      · rw [if_pos h3] at h; exact absurd h (by decide)
    · rw [if_pos h2] at h; exact absurd h h2
  · rw [if_pos h1] at h; exact absurd h h1
theorem addP_is {p : Pn} {ps : List Pn} (h : Ok ps) (h2 : pnE p = 0) (h3 : fnd (nmsP ps) p.nm = -1) (h4 : ps.length < 64) : addP ps p = (reg.ins p ps, 0) := by
  unfold addP
  rw [if_neg (by simp [chkP_zero.2 h]), if_neg (by simp [h2]), if_neg (by simp [h3]), if_neg (by omega)]
/-- Remove behind Add leads back -/
theorem rem_add {p : Pn} {ps : List Pn} (h : (addP ps p).2 = 0) : remP (addP ps p).1 p.nm = (ps, 0) := by
  obtain ⟨h1, h2, h3, h4, h5, h6⟩ := addP_ok h
  rw [h5]
  have hm : p ∈ reg.ins p ps := mem_ins.2 (.inl rfl)
  obtain ⟨j, hj, e⟩ := List.mem_iff_getElem.1 hm
  have hf := fnd_at h6.up hj (s := p.nm) (by rw [e])
  unfold remP
  rw [if_neg (by simp [chkP_zero.2 h6]), hf, if_neg (by omega), Int.toNat_natCast]
  congr 1
  have hup : Up ((reg.ins p ps).eraseIdx j) := List.Pairwise.sublist (List.eraseIdx_sublist _ _) h6.up
  refine up_ext hup h1.up (fun z => ?_)
  rw [List.mem_eraseIdx_iff_getElem]
  constructor
  · rintro ⟨i, hi, hne, rfl⟩
    rcases mem_ins.1 (List.getElem_mem hi) with q | q
    · exact absurd (up_apart h6.up hi hj (by rw [q, e])) hne
    · exact q
  · intro hz
    obtain ⟨i, hi, e2⟩ := List.mem_iff_getElem.1 (mem_ins.2 (.inr hz) : z ∈ reg.ins p ps)
    refine ⟨i, hi, fun q => ?_, e2⟩
    subst q
    rw [e] at e2
    exact fnd_names h3 z hz (by rw [e2])
/-- the order of adding does not matter -/
theorem ins_comm {p q : Pn} {ps : List Pn} (h1 : Ok (reg.ins q (reg.ins p ps))) (h2 : Ok (reg.ins p (reg.ins q ps))) : reg.ins q (reg.ins p ps) = reg.ins p (reg.ins q ps) :=
  up_ext h1.up h2.up (fun z => by
    rw [mem_ins, mem_ins, mem_ins, mem_ins]
    constructor
    · rintro (h | h | h)
      · exact .inr (.inl h)
      · exact .inl h
      · exact .inr (.inr h)
    · rintro (h | h | h)
      · exact .inr (.inl h)
      · exact .inl h
      · exact .inr (.inr h))
end Go.Proofs.YthdjpmiohfaphaaGreatDoor.reg
