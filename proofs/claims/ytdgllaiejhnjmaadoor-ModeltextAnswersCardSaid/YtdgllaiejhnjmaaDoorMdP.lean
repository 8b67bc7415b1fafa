/- Plain facts on networks as text: a wrong line is told by its number; lines of devices among those of nodes. No program in this text. -/
import Derived.Test.YtdgllaiejhnjmaaDoorMdO
namespace Go.Proofs.YtdgllaiejhnjmaaDoor.mod
open lex net strs

def wN00 : List UInt8 := [78, 48, 48]
def wN99 : List UInt8 := [78, 57, 57]
/-- six wrong lines -/
def badW (q : Nat) : List (List UInt8) :=
  if q = 0 then [wNode, [88], wCus, [49]] else if q = 1 then [kw 2, [88], wN00, wCom, [48]] else if q = 2 then [kw 1, [88], wN00, wN99, wCom, [48]] else if q = 3 then [kw 4, [88], wN00, wCom, [48, 55]]
  else if q = 4 then [[115, 119, 105, 116, 99, 104], [88], wN00, wCom, [48]] else [wNode, [88], wCus, [45, 49], wCom, [48]]
def badT (q : Nat) : List UInt8 := Lib.join (badW q) [32] ++ [10]
def badE (q : Nat) : Int := if q = 2 then 3 else 2
instance (x : List UInt8) : Decidable (Wd x) := inferInstanceAs (Decidable (x ≠ [] ∧ (∀ c ∈ x, 33 ≤ c.toNat ∧ c.toNat ≤ 126) ∧ x.length ≤ 21))
instance (ws : List (List UInt8)) : Decidable (Ln ws) := inferInstanceAs (Decidable (ws.length ≤ 6 ∧ ∀ x ∈ ws, Wd x))
theorem bad_ln (q : Nat) (hq : q < 6) : Ln (badW q) := by
  rcases (show q = 0 ∨ q = 1 ∨ q = 2 ∨ q = 3 ∨ q = 4 ∨ q = 5 by omega) with rfl | rfl | rfl | rfl | rfl | rfl <;> decide
theorem bad_skip (q : Nat) (hq : q < 6) : skipB (badW q) = false := by
  rcases (show q = 0 ∨ q = 1 ∨ q = 2 ∨ q = 3 ∨ q = 4 ∨ q = 5 by omega) with rfl | rfl | rfl | rfl | rfl | rfl <;> rfl
theorem bad_addE (ns : List Nd) (h : fnd (nmsN ns) (bs wN99) = -1) (q : Nat) (hq : q < 6) : addE ns (badW q) = badE q := by
  rcases (show q = 0 ∨ q = 1 ∨ q = 2 ∨ q = 3 ∨ q = 4 ∨ q = 5 by omega) with rfl | rfl | rfl | rfl | rfl | rfl
  · rfl
  · rfl
  · have e : addE ns (badW 2) = if fnd (nmsN ns) (bs wN00) = -1 ∨ fnd (nmsN ns) (bs wN99) = -1 then 3 else 0 := rfl
    rw [e, if_pos (.inr h)]; rfl
  · rfl
  · rfl
  · rfl
theorem textOf_append (A B : List (List UInt8)) : textOf (A ++ B) = textOf A ++ textOf B := by simp [textOf]
theorem textOf_one (x : List UInt8) : textOf [x] = x ++ [10] := by simp [textOf]
theorem parse_wrong {W : List (List (List UInt8))} {s : List UInt8} (h : ∀ ws ∈ W, Ln ws) (hl : W.length ≤ 400) (hs : s = textOf (W.map fun ws => Lib.join ws [32])) (k : Nat) (E : Int) (hE : E ≠ 0) (hr : runW 0 ([], []) W = (([], []), k, E)) : parseR s = (([], []), k, E) := by
  obtain ⟨L, h3, h4⟩ := text_lines h hl
  unfold parseR
  rw [hs, h3]
  simp only [h4, hr, if_neg hE]
theorem parse_bad_end {ns : List Nd} {ds : List Dv} (hc : chk ns ds = 0) (h : fnd (nmsN ns) (bs wN99) = -1) (q : Nat) (hq : q < 6) : parseR (printT ns ds ++ badT q ++ badT q) = (([], []), ns.length + ds.length + 1, badE q) := by
  obtain ⟨h1, h2⟩ := print_ln hc
  have hb := bad_ln q hq
  have he : badE q ≠ 0 := by unfold badE; split <;> decide
  refine parse_wrong (W := printW ns ds ++ badW q :: [badW q]) (fun ws hw => ?_) (by simp; omega) ?_ _ _ he ?_
  · rcases List.mem_append.1 hw with h | h
    · exact h1 ws h
    · simp only [List.mem_cons, List.not_mem_nil, or_false, or_self] at h
      rw [h]; exact hb
  · unfold printT badT
    simp only [List.map_append, List.map_cons, List.map_nil, textOf_append, textOf_cons, textOf_nil, List.append_assoc]
    simp
  · rw [runW_wrong (run_print hc) (badW q) (bad_skip q hq) (by rw [bad_addE ns h q hq]; exact he) [badW q] 0, bad_addE ns h q hq]
    simp [printW]
theorem parse_bad_first {ns : List Nd} {ds : List Dv} (hc : chk ns ds = 0) (q : Nat) (hq : q < 6) : parseR (badT q ++ printT ns ds) = (([], []), 1, badE q) := by
  obtain ⟨h1, h2⟩ := print_ln hc
  have hb := bad_ln q hq
  have he : badE q ≠ 0 := by unfold badE; split <;> decide
  refine parse_wrong (W := badW q :: printW ns ds) (fun ws hw => ?_) (by simp; omega) ?_ _ _ he ?_
  · rcases List.mem_cons.1 hw with h | h
    · rw [h]; exact hb
    · exact h1 ws h
  · unfold printT badT
    rw [List.map_cons, textOf_cons]
    simp
  · have := runW_wrong (.nil ([], [])) (badW q) (bad_skip q hq) (by rw [bad_addE [] rfl q hq]; exact he) (printW ns ds) 0
    rw [bad_addE [] rfl q hq] at this
    simpa using this
/-! a part of a valid network: the first nodes, and one device that joins them -/
theorem nds_ok {ns : List Nd} {ds : List Dv} (hc : chk ns ds = 0) : ∀ i, i < ns.length → ndsE ns i = 0 := by
  have hs := chk_small hc
  unfold chk at hc
  rw [if_neg (by omega)] at hc
  by_cases e : fe (ndsE ns) ns.length = 0
  · exact fe_zero e
  · rw [if_neg e] at hc; exact absurd hc e
theorem nds_take {ns : List Nd} {v i : Nat} (hi : i < v) (_hv : v ≤ ns.length) : ndsE (ns.take v) i = ndsE ns i := by
  unfold ndsE
  rw [List.take_take, Nat.min_eq_left (by omega), List.getD_eq_getElem?_getD, List.getD_eq_getElem?_getD, List.getElem?_take_of_lt hi]
theorem chk_nodes {ns : List Nd} {ds : List Dv} (hc : chk ns ds = 0) (v : Nat) (hv : v ≤ ns.length) : chk (ns.take v) [] = 0 := by
  have hs := chk_small hc
  have h1 : fe (ndsE (ns.take v)) (ns.take v).length = 0 := fe_ok fun i hi => by
    have hi' : i < v := by rw [List.length_take] at hi; omega
    rw [nds_take hi' hv]; exact nds_ok hc i (by omega)
  unfold chk
  rw [if_neg (by simp; omega), if_pos h1]; rfl
theorem fnd_sub {l l' : List ByteArray} {s : ByteArray} (h : fnd (l ++ l') s = -1) : fnd l s = -1 := by
  have := fnd_not h
  refine fnd_none (fun i hi => ?_)
  have h2 := this i (by simp; omega)
  rwa [List.getElem_append_left hi] at h2
theorem chk_one {ns : List Nd} {ds : List Dv} (hc : chk ns ds = 0) (v k : Nat) (hv : v ≤ ns.length) (hk : k < ds.length) (ha : (ds[k]).a < v) (hb : (ds[k]).b < v) : chk (ns.take v) [ds[k]] = 0 := by
  have hs := chk_small hc
  have h1 : fe (ndsE (ns.take v)) (ns.take v).length = 0 := fe_ok fun i hi => by
    have hi' : i < v := by rw [List.length_take] at hi; omega
    rw [nds_take hi' hv]; exact nds_ok hc i (by omega)
  have h0 := chk_dv hc k hk
  have hits := chk_its hc k hk
  unfold dvsE at h0
  rw [List.getD_eq_getElem?_getD, List.getElem?_eq_getElem hk, Option.getD_some] at h0 hits
  obtain ⟨p0, p1, -, p2, -, p3⟩ := dvE_parts h0
  obtain ⟨⟨a0, a1⟩, hbb⟩ := itsB_parts hits
  have hl : (ns.take v).length = v := by rw [List.length_take]; omega
  have i1 : itsB (ns.take v).length ds[k] = true := by
    rw [hl]
    refine decide_eq_true ⟨⟨a0, ha⟩, ?_⟩
    rcases hbb with ⟨hj, b0, b1, b2⟩ | ⟨hj, b0⟩
    · exact .inl ⟨hj, b0, hb, b2⟩
    · exact .inr ⟨hj, b0⟩
  have e1 : fnd (nmsN (ns.take v)) (ds[k]).nm = -1 := by
    rw [show nmsN ns = nmsN (ns.take v) ++ nmsN (ns.drop v) from by unfold nmsN; rw [← List.map_append, List.take_append_drop]] at p1
    exact fnd_sub p1
  have h2 : dvsE (ns.take v) [ds[k]] 0 = 0 := by
    show dvE (nmsN (ns.take v)) (nmsD []) (ns.take v).length ds[k] = 0
    unfold dvE
    rw [if_pos p0, if_pos ⟨e1, rfl⟩, if_pos p2, if_pos i1, if_pos p3]
  unfold chk
  rw [if_neg (by simp; omega), if_pos h1]
  show fe (dvsE (ns.take v) [ds[k]]) 1 = 0
  rw [fe, if_pos (show fe (dvsE (ns.take v) [ds[k]]) 0 = 0 from rfl)]; exact h2
theorem dvW_take {ns : List Nd} {ds : List Dv} (hc : chk ns ds = 0) (v k : Nat) (_hv : v ≤ ns.length) (hk : k < ds.length) (ha : (ds[k]).a < v) (hb : (ds[k]).b < v) : dvW (ns.take v) ds[k] = dvW ns ds[k] := by
  have hits := chk_its hc k hk
  rw [List.getD_eq_getElem?_getD, List.getElem?_eq_getElem hk, Option.getD_some] at hits
  obtain ⟨⟨a0, a1⟩, hbb⟩ := itsB_parts hits
  have g : ∀ z : Int, 0 ≤ z → z < v → (ns.take v).getD z.toNat default = ns.getD z.toNat default := fun z z0 z1 => by
    rw [List.getD_eq_getElem?_getD, List.getD_eq_getElem?_getD, List.getElem?_take_of_lt (by omega)]
  unfold dvW
  by_cases hj : 1 ≤ (ds[k]).ki ∧ (ds[k]).ki ≤ 3
  · rw [if_pos hj, if_pos hj, g _ a0 ha]
    rcases hbb with ⟨_, b0, _, _⟩ | ⟨hj', _⟩
    · rw [g _ b0 hb]
    · exact absurd hj hj'
  · rw [if_neg hj, if_neg hj, g _ a0 ha]
/-! lines of devices among those of nodes: v nodes and k devices stand in the text -/
def Mix (ns : List Nd) (ds : List Dv) (v k : Nat) (s : List UInt8) : Prop := ∃ W, (∀ ws ∈ W, Ln ws) ∧ W.length = v + k ∧ s = textOf (W.map fun ws => Lib.join ws [32]) ∧ Run ([], []) W (ns.take v, ds.take k)
theorem Mix.start (ns : List Nd) (ds : List Dv) : Mix ns ds 0 0 [] := ⟨[], (fun _ h => by cases h), rfl, rfl, .nil _⟩
theorem Mix.push {ns : List Nd} {ds : List Dv} {v k v' k' : Nat} {s : List UInt8} {ws : List (List UInt8)} (h : Mix ns ds v k s) (hl : Ln ws) (hn : v' + k' = v + k + 1) (hr : Run (ns.take v, ds.take k) [ws] (ns.take v', ds.take k')) : Mix ns ds v' k' (s ++ (Lib.join ws [32] ++ [10])) := by
  obtain ⟨W, h1, h2, rfl, h4⟩ := h
  refine ⟨W ++ [ws], fun x hx => ?_, by simp; omega, ?_, h4.append hr⟩
  · rcases List.mem_append.1 hx with hx | hx
    · exact h1 x hx
    · rw [List.mem_singleton.1 hx]; exact hl
  · rw [List.map_append, textOf_append, List.map_cons, List.map_nil, textOf_one]
theorem Mix.node {ns : List Nd} {ds : List Dv} (hc : chk ns ds = 0) {v k : Nat} {s : List UInt8} (h : Mix ns ds v k s) (hv : v < ns.length) : Mix ns ds (v + 1) k (s ++ (Lib.join (ndW ns[v]) [32] ++ [10])) := by
  refine h.push (nd_ln hc v hv) (by omega) ?_
  have h0 := nds_ok hc v hv
  unfold ndsE at h0
  rw [List.getD_eq_getElem?_getD, List.getElem?_eq_getElem hv, Option.getD_some] at h0
  obtain ⟨-, -, p1, p2, p3, p4⟩ := ndE_parts h0
  rw [List.take_succ_eq_append_getElem hv]
  exact run_node (ns.take v, ds.take k) ns[v] p1 (by unfold lim; exact Int.le_trans p2 (by decide)) p3 (by unfold lim; exact Int.le_trans p4 (by decide))
theorem Mix.dev {ns : List Nd} {ds : List Dv} (hc : chk ns ds = 0) {v k : Nat} {s : List UInt8} (h : Mix ns ds v k s) (hv : v ≤ ns.length) (hk : k < ds.length) (ha : (ds[k]).a < v) (hb : (ds[k]).b < v) : Mix ns ds v (k + 1) (s ++ (Lib.join (dvW ns ds[k]) [32] ++ [10])) := by
  refine h.push (dv_ln hc k hk) (by omega) ?_
  have h0 := chk_dv hc k hk
  have hits := chk_its hc k hk
  unfold dvsE at h0
  rw [List.getD_eq_getElem?_getD, List.getElem?_eq_getElem hk, Option.getD_some] at h0 hits
  obtain ⟨-, -, -, p1, -, p3, p4⟩ := dvE_parts h0
  obtain ⟨⟨a0, a1⟩, hbb⟩ := itsB_parts hits
  have ft : ∀ z : Int, 0 ≤ z → z < v → fnd (nmsN (ns.take v)) (ns.getD z.toNat default).nm = z := fun z z0 z1 => by
    rw [fnd_take hc v z.toNat (by omega) hv]; omega
  rw [List.take_succ_eq_append_getElem hk]
  refine run_dev (ns.take v, ds.take k) ns ds[k] p1.1 p1.2 p3 (by unfold lim; exact Int.le_trans p4 (by decide)) a0 (ft _ a0 ha) (fun hj => ?_) (fun hj => ?_)
  · rcases hbb with ⟨_, b0, _, _⟩ | ⟨hb', _⟩
    · exact ⟨b0, ft _ b0 hb⟩
    · exact absurd hj hb'
  · rcases hbb with ⟨hb', _⟩ | ⟨_, hb'⟩
    · exact absurd hb' hj
    · exact hb'
theorem Mix.parse {ns : List Nd} {ds : List Dv} (hc : chk ns ds = 0) {s : List UInt8} (h : Mix ns ds ns.length ds.length s) : parseR s = ((ns, ds), 0, 0) := by
  have hs := chk_small hc
  obtain ⟨W, h1, h2, rfl, h4⟩ := h
  rw [List.take_length, List.take_length] at h4
  obtain ⟨L, h5, h6⟩ := text_lines h1 (by omega)
  exact Run.parse h5 (by rw [h6]; exact h4) hc
end Go.Proofs.YtdgllaiejhnjmaaDoor.mod
