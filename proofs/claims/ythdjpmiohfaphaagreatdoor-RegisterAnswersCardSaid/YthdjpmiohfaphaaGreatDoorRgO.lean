/- Plain facts on registers: who can do what, that Remove behind Add leads back, the greatest register. No program in this text. -/
import Derived.Test.YthdjpmiohfaphaaGreatDoorRgN
namespace Go.Proofs.YthdjpmiohfaphaaGreatDoor.reg
open lex strs net cal

/-- all of some skills are had -/
def hasB (sk k : Int) : Bool := decide (Go.IntKind.i64.wrap ((BitVec.ofInt 64 sk &&& BitVec.ofInt 64 k).toNat : Int) = k)
def canP (ps : List Pn) (s : ByteArray) (k t : Int) : Bool :=
  decide (0 ≤ fndP ps s) && decide (1 ≤ k ∧ k ≤ 31) && hasB (ps.getD (fndP ps s).toNat default).sk k && decide ((ps.getD (fndP ps s).toNat default).fr ≤ t ∧ t < (ps.getD (fndP ps s).toNat default).un)
theorem hasB_self {k : Int} (h0 : 0 ≤ k) (h1 : k ≤ 31) : hasB k k = true := by
  unfold hasB
  rw [BitVec.and_self, decide_eq_true_eq]
  rw [Go.IntKind.wrap_i64]
  have : ((BitVec.ofInt 64 k).toNat : Int) = k := by
    rw [BitVec.toNat_ofInt]
    omega
  omega
theorem fndP_add {ps : List Pn} {p : Pn} (h : (addP ps p).2 = 0) : ∃ j : Nat, j < (addP ps p).1.length ∧ fndP (addP ps p).1 p.nm = j ∧ (addP ps p).1.getD j default = p := by
  obtain ⟨h1, h2, h3, h4, h5, h6⟩ := addP_ok h
  rw [h5]
  obtain ⟨j, hj, e⟩ := List.mem_iff_getElem.1 (mem_ins.2 (.inl rfl) : p ∈ reg.ins p ps)
  refine ⟨j, hj, ?_, ?_⟩
  · unfold fndP
    rw [if_pos (chkP_zero.2 h6), fnd_at h6.up hj (s := p.nm) (by rw [e])]
  · rw [List.getD_eq_getElem?_getD, List.getElem?_eq_getElem hj, e]; rfl
theorem fndP_add_no {ps : List Pn} {p : Pn} (h : (addP ps p).2 = 0) : fndP ps p.nm = -1 := by
  obtain ⟨h1, -, h3, -⟩ := addP_ok h
  unfold fndP
  rw [if_pos (chkP_zero.2 h1), h3]
theorem can_add {ps : List Pn} {p : Pn} (h : (addP ps p).2 = 0) (hs : 0 < p.sk) : canP (addP ps p).1 p.nm p.sk p.fr = true := by
  obtain ⟨j, hj, e1, e2⟩ := fndP_add h
  obtain ⟨-, h2, -⟩ := addP_ok h
  obtain ⟨-, ⟨-, s0, s1⟩, f0, f1, u1⟩ := pnE_zero.1 h2
  unfold canP
  rw [e1, Int.toNat_natCast, e2, hasB_self s0 s1, decide_eq_true (show (0 : Int) ≤ (j : Int) by omega), decide_eq_true (show 1 ≤ p.sk ∧ p.sk ≤ 31 by omega), decide_eq_true (show p.fr ≤ p.fr ∧ p.fr < p.un by omega)]
  rfl
theorem can_until {ps : List Pn} {p : Pn} (h : (addP ps p).2 = 0) (k : Int) : canP (addP ps p).1 p.nm k p.un = false := by
  obtain ⟨j, hj, e1, e2⟩ := fndP_add h
  unfold canP
  rw [e1, Int.toNat_natCast, e2, decide_eq_false (show ¬ (p.fr ≤ p.un ∧ p.un < p.un) by omega), Bool.and_false]
/-- the name is there -/
theorem add_twice {ps : List Pn} {p : Pn} (h : Ok ps) (hp : pnE p = 0) (e : (addP ps p).2 = 4) : 0 ≤ fndP ps p.nm := by
  unfold addP at e
  rw [if_neg (by simp [chkP_zero.2 h]), if_neg (by simp [hp])] at e
  unfold fndP
  rw [if_pos (chkP_zero.2 h)]
  have := (fnd_ge (nmsP ps) p.nm).1
  by_cases h3 : fnd (nmsP ps) p.nm = -1
  · rw [if_neg (by simp [h3])] at e
    by_cases h4 : 64 ≤ ps.length
    · rw [if_pos h4] at e; exact absurd e (by decide)
    · rw [if_neg h4] at e; exact absurd (show (0 : Int) = 4 from e) (by decide)
  · omega
theorem add_or {ps : List Pn} {p : Pn} (h : Ok ps) (hp : pnE p = 0) (hl : ps.length < 64) : (addP ps p).2 = 0 ∨ (addP ps p).2 = 4 := by
  unfold addP
  rw [if_neg (by simp [chkP_zero.2 h]), if_neg (by simp [hp])]
  by_cases h3 : fnd (nmsP ps) p.nm = -1
  · rw [if_neg (by simp [h3]), if_neg (by omega)]; exact .inl rfl
  · rw [if_pos h3]; exact .inr rfl
/-- the order of adding does not matter -/
theorem add_comm {ps : List Pn} {p q : Pn} (h1 : (addP ps p).2 = 0) (h2 : (addP (addP ps p).1 q).2 = 0) (h3 : (addP ps q).2 = 0) : addP (addP ps q).1 p = ((addP (addP ps p).1 q).1, 0) := by
  obtain ⟨a1, a2, a3, a4, a5, a6⟩ := addP_ok h1
  obtain ⟨b1, b2, b3, b4, b5, b6⟩ := addP_ok h2
  obtain ⟨c1, c2, c3, c4, c5, c6⟩ := addP_ok h3
  rw [a5] at b3 b4 b5 b6 ⊢
  rw [b5, c5]
  simp only at b3 b4 b5 b6 ⊢
  have hne : p.nm ≠ q.nm := fnd_names b3 p (mem_ins.2 (.inl rfl))
  have hf : fnd (nmsP (reg.ins q ps)) p.nm = -1 := fnd_free (fun x hx => by
    rcases mem_ins.1 hx with rfl | hx
    · exact Ne.symm hne
    · exact fnd_names a3 x hx)
  rw [length_ins] at b4
  have hl : (reg.ins q ps).length < 64 := by rw [length_ins]; exact b4
  rw [addP_is c6 a2 hf hl]
  exact Prod.ext (ins_comm (c6.ins a2 hf hl) b6) rfl

/-! the greatest register -/
def limN (i : Nat) : ByteArray := bs [80, UInt8.ofNat (97 + i / 8), UInt8.ofNat (97 + i % 8)]
def limP (i : Nat) : Pn := ⟨limN i, 0, 0, 0, 1⟩
def limR (c : Nat) : List Pn := (List.range c).map limP
def limA : Pn := ⟨bs [65], 0, 0, 0, 9⟩
theorem limR_length (c : Nat) : (limR c).length = c := by simp [limR]
set_option maxRecDepth 10000 in
theorem limN_up : ∀ i, i < 65 → ∀ j, j < i → Go.Op.bytesLess [80, UInt8.ofNat (97 + j / 8), UInt8.ofNat (97 + j % 8)] [80, UInt8.ofNat (97 + i / 8), UInt8.ofNat (97 + i % 8)] = true := by decide
set_option maxRecDepth 10000 in
theorem limN_name : ∀ i, i < 65 → nameB [80, UInt8.ofNat (97 + i / 8), UInt8.ofNat (97 + i % 8)] = true := by decide
theorem lim_ok {c : Nat} (h : c ≤ 64) : Ok (limR c) where
  len := by rw [limR_length]; exact h
  all := fun p hp => by
    obtain ⟨i, hi, rfl⟩ := List.mem_map.1 hp
    have hi := List.mem_range.1 hi
    exact pnE_zero.2 ⟨by show nameB (bs _).data.toList = true; rw [bs_data]; exact limN_name i (by omega), ⟨⟨show (0 : Int) ≤ 0 by decide, show (0 : Int) ≤ 7 by decide⟩, show (0 : Int) ≤ 0 by decide, show (0 : Int) ≤ 31 by decide⟩, show (0 : Int) ≤ 0 by decide, show (0 : Int) < 1 by decide, show (1 : Int) ≤ 16777216 by decide⟩
  up := List.pairwise_iff_getElem.2 (fun i j hi hj hij => by
    rw [limR_length] at hi hj
    have e : ∀ k (hk : k < (limR c).length), ((limR c)[k]).nm = limN k := fun k hk => by simp [limR, limP]
    rw [e i, e j]
    unfold lt limN
    rw [bs_data, bs_data]
    exact limN_up j (by omega) i hij)
theorem lim_over : chkP (limR 65) = 1 := by unfold chkP; rw [limR_length]; rfl
theorem lim_add_over : addP (limR 65) limA = ([], 1) := by unfold addP; rw [lim_over]; rfl
theorem limA_ok : pnE limA = 0 := by kernel_rfl
set_option maxRecDepth 10000 in
theorem limA_up : ∀ i, i < 65 → Go.Op.bytesLess [65] [80, UInt8.ofNat (97 + i / 8), UInt8.ofNat (97 + i % 8)] = true := by decide
theorem limA_no (c : Nat) (h : c ≤ 64) : fnd (nmsP (limR c)) limA.nm = -1 := fnd_free (fun x hx => by
  obtain ⟨i, hi, rfl⟩ := List.mem_map.1 hx
  have hi := List.mem_range.1 hi
  refine Ne.symm (lt_ne ?_)
  show Go.Op.bytesLess (bs _).data.toList (bs _).data.toList = true
  rw [bs_data, bs_data]
  exact limA_up i (by omega))
theorem lim_add_full : addP (limR 64) limA = ([], 1) := by
  unfold addP
  rw [if_neg (by simp [chkP_zero.2 (lim_ok (Nat.le_refl 64))]), if_neg (by simp [limA_ok]), if_neg (by simp [limA_no 64 (Nat.le_refl _)]), if_pos (by rw [limR_length]; exact Nat.le_refl _)]
theorem lim_add {c : Nat} (h : c < 64) : addP (limR c) limA = (limA :: limR c, 0) := by
  rw [addP_is (lim_ok (by omega)) limA_ok (limA_no c (by omega)) (by rw [limR_length]; exact h)]
  congr 1
  unfold reg.ins
  cases e : limR c with
  | nil => rfl
  | cons x r =>
    have hx : lt x.nm limA.nm = false := by
      have : x ∈ limR c := by rw [e]; simp
      obtain ⟨i, hi, rfl⟩ := List.mem_map.1 this
      have hi := List.mem_range.1 hi
      refine lt_asym ?_
      show Go.Op.bytesLess (bs _).data.toList (bs _).data.toList = true
      rw [bs_data, bs_data]
      exact limA_up i (by omega)
    simp only [List.takeWhile_cons, List.dropWhile_cons, hx, Bool.false_eq_true, if_false, List.nil_append]
end Go.Proofs.YthdjpmiohfaphaaGreatDoor.reg
