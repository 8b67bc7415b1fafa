/- Plain facts and memory for Parse: lines one after the other; what is known of the network that was read. No walk in this text. -/
import Derived.Test.YtdgllaiejhnjmaaDoorMdI
namespace Go.Proofs.YtdgllaiejhnjmaaDoor.mod
open Go.RowKit lex net aggs kit strs deck

theorem linesF_wsum (r : List UInt8) : ∀ cur L, linesF cur r = some L → wsum L = cur.length + r.length := by
  induction r with
  | nil =>
    intro cur L h
    unfold linesF at h
    split at h
    · rename_i e
      injection h with h
      subst h e; rfl
    · cases h
  | cons c r ih =>
    intro cur L h
    unfold linesF at h
    split at h
    · obtain ⟨L', h1, h2⟩ := Option.map_eq_some_iff.1 h
      subst h2
      have := ih [] L' h1
      rw [wsum_cons, this]; simp; omega
    · split at h
      · have := ih _ L h
        rw [this]; simp; omega
      · cases h
theorem lines_wsum {s : List UInt8} {L : List (List UInt8)} (h : lines s = some L) : wsum L = s.length ∧ s.length ≤ 65536 := by
  unfold lines at h
  split at h
  · cases h
  · have := linesF_wsum s [] L h
    simp at this
    exact ⟨this, by omega⟩
theorem mem_wsum_le {x : List UInt8} {L : List (List UInt8)} (h : x ∈ L) : x.length + 1 ≤ wsum L := by
  induction L with
  | nil => cases h
  | cons y r ih =>
    rw [wsum_cons]
    rcases List.mem_cons.1 h with rfl | h
    · omega
    · have := ih h; omega
/-- one line of a run -/
theorem run_line (j : Nat) (st : List Nd × List Dv) (ws : List (List UInt8)) (r : List (List (List UInt8))) : runW j st (ws :: r) = if lineE st.1 ws = 0 then runW (j + 1) (lineS st ws) r else (([], []), j + 1, lineE st.1 ws) := by
  rw [runW]
  unfold lineE lineS
  by_cases h : skipB ws = true
  · rw [if_pos h, if_pos h, if_pos rfl, if_pos h]
  · rw [if_neg h, if_neg h, if_neg h]
/-- the run that is being read: j lines were right -/
def At (L : List (List UInt8)) (j : Nat) (st : List Nd × List Dv) : Prop := runW 0 ([], []) (L.map words) = runW j st ((L.drop j).map words)
theorem At.start (L : List (List UInt8)) : At L 0 ([], []) := rfl
theorem At.next {L : List (List UInt8)} {j : Nat} {st : List Nd × List Dv} (h : At L j st) (hj : j < L.length) (e : lineE st.1 (words L[j]) = 0) : At L (j + 1) (lineS st (words L[j])) := by
  unfold At at *
  rw [h, List.drop_eq_getElem_cons hj, List.map_cons, run_line, if_pos e]
theorem At.bad {L : List (List UInt8)} {s : List UInt8} {j : Nat} {st : List Nd × List Dv} (h : At L j st) (hL : lines s = some L) (hj : j < L.length) (e : lineE st.1 (words L[j]) ≠ 0) : parseR s = (([], []), j + 1, lineE st.1 (words L[j])) := by
  unfold At at h
  rw [List.drop_eq_getElem_cons hj, List.map_cons, run_line, if_neg e] at h
  unfold parseR
  rw [hL]
  simp only [h, if_neg e]
theorem At.fin {L : List (List UInt8)} {s : List UInt8} {st : List Nd × List Dv} (h : At L L.length st) (hL : lines s = some L) : parseR s = if chk st.1 st.2 = 0 then (st, 0, 0) else (([], []), 0, chk st.1 st.2) := by
  unfold At at h
  rw [List.drop_length, List.map_nil, runW] at h
  unfold parseR
  rw [hL]
  simp only [h, if_true]
theorem parse_none {s : List UInt8} (h : lines s = none) : parseR s = (([], []), 0, 2) := by unfold parseR; rw [h]
/-- what a machine's numbers ask of the network that is being read -/
structure RI (j : Nat) (st : List Nd × List Dv) : Prop where
  nl : st.1.length ≤ j
  dl : st.2.length ≤ j
  nz : ∀ x ∈ st.1, x.nm.size ≤ 200000
  df : ∀ x ∈ st.2, x.nm.size ≤ 200000 ∧ -1 ≤ x.a ∧ x.a ≤ 200000 ∧ -1 ≤ x.b ∧ x.b ≤ 200000
theorem RI.start : RI 0 ([], []) := ⟨Nat.le_refl _, Nat.le_refl _, (fun _ h => by cases h), (fun _ h => by cases h)⟩
theorem at_size {ws : List (List UInt8)} (h : ∀ s ∈ ws, s.length ≤ 200000) (i : Nat) : (bs (at_ ws i)).size ≤ 200000 := by
  rw [bs_size]
  unfold at_
  rw [List.getD_eq_getElem?_getD]
  cases e : ws[i]? with
  | none => simp
  | some s => exact h s (List.mem_of_getElem? e)
theorem RI.line {j : Nat} {st : List Nd × List Dv} (h : RI j st) (hj : j ≤ 200000) {ws : List (List UInt8)} (hz : ∀ s ∈ ws, s.length ≤ 200000) : RI (j + 1) (lineS st ws) := by
  have up : RI (j + 1) st := ⟨Nat.le_succ_of_le h.nl, Nat.le_succ_of_le h.dl, h.nz, h.df⟩
  have fl : ∀ z, -1 ≤ fnd (nmsN st.1) z ∧ fnd (nmsN st.1) z ≤ 200000 := fun z => by
    have h1 := fnd_ge (nmsN st.1) z
    have h2 := h.nl
    have h3 : (nmsN st.1).length = st.1.length := by simp [nmsN]
    omega
  unfold lineS
  by_cases hs : skipB ws = true
  · rw [if_pos hs]; exact up
  · rw [if_neg hs]
    unfold addS
    by_cases h1 : at_ ws 0 = wNode
    · rw [if_pos h1]
      refine ⟨by rw [List.length_append]; exact Nat.succ_le_succ h.nl, up.dl, fun x hx => ?_, up.df⟩
      rcases List.mem_append.1 hx with hx | hx
      · exact h.nz x hx
      · rw [List.mem_singleton.1 hx]; exact at_size hz 1
    · rw [if_neg h1]
      by_cases h2 : kindOf (at_ ws 0) ≤ 3
      · rw [if_pos h2]
        refine ⟨up.nl, by rw [List.length_append]; exact Nat.succ_le_succ h.dl, up.nz, fun x hx => ?_⟩
        rcases List.mem_append.1 hx with hx | hx
        · exact h.df x hx
        · rw [List.mem_singleton.1 hx]; exact ⟨at_size hz 1, (fl _).1, (fl _).2, (fl _).1, (fl _).2⟩
      · rw [if_neg h2]
        refine ⟨up.nl, by rw [List.length_append]; exact Nat.succ_le_succ h.dl, up.nz, fun x hx => ?_⟩
        rcases List.mem_append.1 hx with hx | hx
        · exact h.df x hx
        · rw [List.mem_singleton.1 hx]; exact ⟨at_size hz 1, (fl _).1, (fl _).2, Int.le_refl _, show (-1 : Int) ≤ 200000 by decide⟩
theorem RI.net {j : Nat} {st : List Nd × List Dv} (h : RI j st) {W : World} {x : Nat} {vn vd : Value} (p : PB W x vn vd st.1 st.2) : ∃ a c b d, vn = .slice a st.1.length c ∧ vd = .slice b st.2.length d ∧ NetIn W a b st.1.length c st.2.length d st.1 st.2 := by
  have cap : ∀ {v : Value} {T k n : Nat} {xs : List Value} {base : Nat} {a : Option Addr} {c : Nat}, W.ownsRow base T k v n xs → v = .slice a n c → n ≤ c ∧ c ≤ maxLen := fun h e => by
    rcases h.2 with ⟨h1, h2⟩ | ⟨g, cap, cur, h1, _, _, h2, h3, _⟩
    · rw [h1] at e; injection e with e1 e2 e3; subst e3; exact ⟨by omega, Nat.zero_le _⟩
    · rw [h1] at e; injection e with e1 e2 e3; subst e3; exact ⟨h2, h3⟩
  obtain ⟨a, c, e1, r1⟩ := AggsAt.rin p.rn encNd_len
  obtain ⟨b, d, e2, r2⟩ := AggsAt.rin p.rd encDv_len
  obtain ⟨k1, k2⟩ := cap p.rn e1
  obtain ⟨k3, k4⟩ := cap p.rd e2
  refine ⟨a, c, b, d, e1, e2, rfl, rfl, r1, r2, fun x hx => ?_, fun x hx => ?_, k1, k2, k3, k4⟩
  · have := h.nz x hx; unfold maxLen; omega
  · obtain ⟨f1, f2, f3, f4, f5⟩ := h.df x hx
    exact ⟨by omega, by omega, by omega, by omega, by unfold maxLen; omega⟩
/-- WHAT PARSE LEAVES -/
def ParsePost (s : List UInt8) (w : World) (e : Ending) (w' : World) : Prop :=
  ∃ a N c b M d, e = .returned (.tuple #[.agg #[.slice a N c, .slice b M d], .int .i64 ((parseR s).2.1 : Nat), .int .i64 (parseR s).2.2]) ∧ NetIn w' a b N c M d (parseR s).1.1 (parseR s).1.2 ∧ Below w.heap.size w w'
theorem net_none (W : World) : NetIn W none none 0 0 0 0 [] [] := ⟨rfl, rfl, .inl ⟨rfl, rfl⟩, .inl ⟨rfl, rfl⟩, (fun _ h => by cases h), (fun _ h => by cases h), Nat.le_refl _, Nat.zero_le _, Nat.le_refl _, Nat.zero_le _⟩
/-- two cells of a block are set -/
theorem two_set {W : World} {b T : Nat} {C : Array Value} (p q : Value) (h : W.heap[b]? = some (.cells C T (0, 0))) (hC : C.size = 2) : ((W.setCell ⟨b, 0, none⟩ p).setCell ⟨b, 1, none⟩ q).cell? ⟨b, 0, none⟩ = some p ∧ ((W.setCell ⟨b, 0, none⟩ p).setCell ⟨b, 1, none⟩ q).cell? ⟨b, 1, none⟩ = some q := by
  have h2 := set_at (i := 1) q (set_at (i := 0) p h)
  refine ⟨?_, ?_⟩
  · rw [(cell_at h2 0).1]; simp [hC]
  · rw [(cell_at h2 1).1]; simp [hC]
end Go.Proofs.YtdgllaiejhnjmaaDoor.mod
