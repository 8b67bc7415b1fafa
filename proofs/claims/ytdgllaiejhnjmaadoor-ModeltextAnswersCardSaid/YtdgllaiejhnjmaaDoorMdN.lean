/- Plain facts on networks as text: the text of a network is made of lines and words that are read as they were. No program in this text. -/
import Derived.Test.YtdgllaiejhnjmaaDoorMdM
namespace Go.Proofs.YtdgllaiejhnjmaaDoor.mod
open lex net strs

/-- a word of a printed line -/
def Wd (x : List UInt8) : Prop := x ≠ [] ∧ (∀ c ∈ x, 33 ≤ c.toNat ∧ c.toNat ≤ 126) ∧ x.length ≤ 21
theorem Wd.good {x : List UInt8} (h : Wd x) : lex.Good x := ⟨h.1, fun c hc e => by have := h.2.1 c hc; subst e; exact absurd this.1 (by decide)⟩
theorem isN_wd {c : UInt8} (h : isN c = true) : 33 ≤ c.toNat ∧ c.toNat ≤ 126 := by
  unfold isN isL isD at h
  simp only [Bool.or_eq_true, decide_eq_true_eq] at h
  omega
theorem name_wd {l : List UInt8} (h : nameB l = true) : Wd l := by
  unfold nameB at h
  simp only [Bool.and_eq_true, decide_eq_true_eq, Bool.not_eq_true', List.isEmpty_eq_false_iff] at h
  obtain ⟨⟨⟨h1, h2⟩, -⟩, h4⟩ := h
  exact ⟨h1, fun c hc => isN_wd (List.all_eq_true.1 h4 c hc), by omega⟩
theorem itoa_wd {n : Int} (h0 : 0 ≤ n) (h1 : n ≤ 9223372036854775807) : Wd (Lib.itoa n) := by
  have hl := itoa_length_pos n
  refine ⟨fun e => by rw [e] at hl; exact absurd hl (by decide), fun c hc => ?_, itoa_length n (by omega) h1⟩
  have e : Lib.itoa n = Lib.decDigits n.toNat := by
    obtain ⟨k, rfl⟩ : ∃ k : Nat, n = k := ⟨n.toNat, by omega⟩
    simp [Lib.itoa]
  rw [e] at hc
  have := List.all_eq_true.1 (dec_all n.toNat) c hc
  unfold isD at this
  have := of_decide_eq_true this
  omega
theorem kw_wd {k : Int} (h1 : 1 ≤ k) (h6 : k ≤ 6) : Wd (kw k) := by
  rcases (show k = 1 ∨ k = 2 ∨ k = 3 ∨ k = 4 ∨ k = 5 ∨ k = 6 by omega) with rfl | rfl | rfl | rfl | rfl | rfl <;> exact ⟨by decide, by decide, by decide⟩
theorem com_wd : Wd wCom := ⟨by decide, by decide, by decide⟩
theorem cus_wd : Wd wCus := ⟨by decide, by decide, by decide⟩
theorem node_wd : Wd wNode := ⟨by decide, by decide, by decide⟩
theorem mem_inter (s : List UInt8) : ∀ (xs : List (List UInt8)) (l : List UInt8), l ∈ List.intersperse s xs → l = s ∨ l ∈ xs
  | [], l, h => by simp at h
  | [x], l, h => by simp at h; exact .inr (by simp [h])
  | x :: y :: r, l, h => by
    rw [show List.intersperse s (x :: y :: r) = x :: s :: List.intersperse s (y :: r) from rfl] at h
    rcases List.mem_cons.1 h with h | h
    · exact .inr (by simp [h])
    · rcases List.mem_cons.1 h with h | h
      · exact .inl h
      · rcases mem_inter s (y :: r) l h with h | h
        · exact .inl h
        · exact .inr (List.mem_cons_of_mem _ h)
theorem join_plain {ws : List (List UInt8)} (h : ∀ x ∈ ws, Wd x) : Plain (Lib.join ws [32]) := by
  intro c hc
  have hc : c ∈ (List.intersperse [32] ws).flatten := hc
  obtain ⟨l, hl, hcl⟩ := List.mem_flatten.1 hc
  rcases mem_inter _ _ _ hl with rfl | hl
  · rw [List.mem_singleton.1 hcl]; rfl
  · have := (h l hl).2.1 c hcl
    unfold isT; exact decide_eq_true (by omega)
theorem wsum_le {ws : List (List UInt8)} (h : ∀ x ∈ ws, Wd x) : wsum ws ≤ 22 * ws.length := by
  induction ws with
  | nil => exact Nat.le_refl _
  | cons x r ih =>
    have := ih (fun y hy => h y (List.mem_cons_of_mem _ hy))
    have := (h x List.mem_cons_self).2.2
    rw [wsum_cons, List.length_cons]; omega
/-- lines of at most six such words -/
def Ln (ws : List (List UInt8)) : Prop := ws.length ≤ 6 ∧ ∀ x ∈ ws, Wd x
theorem text_len {W : List (List (List UInt8))} (h : ∀ ws ∈ W, Ln ws) : (textOf (W.map fun ws => Lib.join ws [32])).length ≤ 133 * W.length := by
  induction W with
  | nil => exact Nat.le_refl _
  | cons ws r ih =>
    have h1 := ih (fun y hy => h y (List.mem_cons_of_mem _ hy))
    have h2 := h ws List.mem_cons_self
    have h3 := join_length ws
    have h4 := wsum_le h2.2
    have h5 := h2.1
    rw [List.map_cons, textOf_cons, List.length_append, List.length_cons, List.length_cons]; omega
/-- such lines are read as they were -/
theorem text_lines {W : List (List (List UInt8))} (h : ∀ ws ∈ W, Ln ws) (hl : W.length ≤ 400) : ∃ L, lines (textOf (W.map fun ws => Lib.join ws [32])) = some L ∧ L.map words = W := by
  refine ⟨W.map fun ws => Lib.join ws [32], lines_text _ (fun x hx => ?_) (by have := text_len h; omega), ?_⟩
  · obtain ⟨ws, hw, rfl⟩ := List.mem_map.1 hx
    exact join_plain (h ws hw).2
  · rw [List.map_map]
    have : ∀ ws ∈ W, (words ∘ fun ws => Lib.join ws [32]) ws = id ws := fun ws hw => words_join ws (fun x hx => Wd.good ((h ws hw).2 x hx))
    rw [List.map_congr_left this, List.map_id]
theorem nd_ln {ns : List Nd} {ds : List Dv} (hc : chk ns ds = 0) (i : Nat) (hi : i < ns.length) : Ln (ndW ns[i]) := by
  have hs := chk_small hc
  have h2 := hc
  unfold chk at h2
  rw [if_neg (by omega)] at h2
  have h0 : ndsE ns i = 0 := by
    by_cases e : fe (ndsE ns) ns.length = 0
    · exact fe_zero e i hi
    · rw [if_neg e] at h2; exact absurd h2 e
  unfold ndsE at h0
  rw [List.getD_eq_getElem?_getD, List.getElem?_eq_getElem hi] at h0
  obtain ⟨p0, -, p1, p2, p3, p4⟩ := ndE_parts h0
  refine ⟨by simp [ndW], fun x hx => ?_⟩
  simp only [ndW, List.mem_cons, List.not_mem_nil, or_false] at hx
  rcases hx with rfl | rfl | rfl | rfl | rfl | rfl
  · exact node_wd
  · exact name_wd p0
  · exact cus_wd
  · exact itoa_wd p1 (by exact Int.le_trans p2 (by decide))
  · exact com_wd
  · exact itoa_wd p3 (by exact Int.le_trans p4 (by decide))
theorem nd_name {ns : List Nd} {ds : List Dv} (hc : chk ns ds = 0) (i : Nat) (hi : i < ns.length) : Wd ns[i].nm.data.toList := by
  have := (nd_ln hc i hi).2 ns[i].nm.data.toList (by simp [ndW])
  exact this
theorem dv_ln {ns : List Nd} {ds : List Dv} (hc : chk ns ds = 0) (i : Nat) (hi : i < ds.length) : Ln (dvW ns ds[i]) := by
  have h0 := chk_dv hc i hi
  have hits := chk_its hc i hi
  unfold dvsE at h0
  rw [List.getD_eq_getElem?_getD, List.getElem?_eq_getElem hi] at h0 hits
  obtain ⟨p0, -, -, p1, -, p3, p4⟩ := dvE_parts h0
  obtain ⟨⟨a0, a1⟩, hb⟩ := itsB_parts hits
  have nm : ∀ z : Int, 0 ≤ z → z < ns.length → Wd (ns.getD z.toNat default).nm.data.toList := fun z z0 z1 => by
    rw [List.getD_eq_getElem?_getD, List.getElem?_eq_getElem (by omega)]
    exact nd_name hc z.toNat (by omega)
  have ha := nm _ a0 a1
  have hco := itoa_wd p3 (by exact Int.le_trans p4 (by decide))
  have hk := kw_wd p1.1 p1.2
  by_cases hj : 1 ≤ (ds[i]).ki ∧ (ds[i]).ki ≤ 3
  · have hB : Wd (ns.getD (ds[i]).b.toNat default).nm.data.toList := by
      rcases hb with ⟨_, b0, b1, _⟩ | ⟨hb, _⟩
      · exact nm _ b0 b1
      · exact absurd hj hb
    refine ⟨by unfold dvW; rw [if_pos hj]; simp, fun x hx => ?_⟩
    unfold dvW at hx
    rw [if_pos hj] at hx
    simp only [List.mem_cons, List.not_mem_nil, or_false] at hx
    rcases hx with rfl | rfl | rfl | rfl | rfl | rfl
    · exact hk
    · exact name_wd p0
    · exact ha
    · exact hB
    · exact com_wd
    · exact hco
  · refine ⟨by unfold dvW; rw [if_neg hj]; simp, fun x hx => ?_⟩
    unfold dvW at hx
    rw [if_neg hj] at hx
    simp only [List.mem_cons, List.not_mem_nil, or_false] at hx
    rcases hx with rfl | rfl | rfl | rfl | rfl
    · exact hk
    · exact name_wd p0
    · exact ha
    · exact com_wd
    · exact hco
theorem print_ln {ns : List Nd} {ds : List Dv} (hc : chk ns ds = 0) : (∀ ws ∈ printW ns ds, Ln ws) ∧ (printW ns ds).length ≤ 96 := by
  have hs := chk_small hc
  refine ⟨fun ws hw => ?_, by simp [printW]; omega⟩
  rcases List.mem_append.1 hw with h | h
  · obtain ⟨x, hx, rfl⟩ := List.mem_map.1 h
    obtain ⟨i, hi, rfl⟩ := List.mem_iff_getElem.1 hx
    exact nd_ln hc i hi
  · obtain ⟨x, hx, rfl⟩ := List.mem_map.1 h
    obtain ⟨i, hi, rfl⟩ := List.mem_iff_getElem.1 hx
    exact dv_ln hc i hi
/-- PARSE OF PRINT IS THE NETWORK -/
theorem parse_print {ns : List Nd} {ds : List Dv} (hc : chk ns ds = 0) : parseR (printT ns ds) = ((ns, ds), 0, 0) := by
  obtain ⟨h1, h2⟩ := print_ln hc
  obtain ⟨L, h3, h4⟩ := text_lines h1 (by omega)
  exact Run.parse h3 (by rw [h4]; exact run_print hc) hc
end Go.Proofs.YtdgllaiejhnjmaaDoor.mod
