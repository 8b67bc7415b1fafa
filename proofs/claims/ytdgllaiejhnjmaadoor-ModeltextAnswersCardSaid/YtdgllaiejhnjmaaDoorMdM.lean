/- Plain facts on networks as text: what Print writes, what Parse makes of lines, that what was printed is read as it was. No program in this text. -/
import Derived.Test.YtdgllaiejhnjmaaDoorNetM
import Derived.Test.YtdgllaiejhnjmaaDoorLexP
namespace Go.Proofs.YtdgllaiejhnjmaaDoor.mod
open lex net strs

/-- the word of a kind -/
def kw (k : Int) : List UInt8 :=
  if k = 1 then [108, 105, 110, 101] else if k = 2 then [98, 114, 101, 97, 107, 101, 114] else if k = 3 then [100, 105, 115, 99, 111, 110, 110, 101, 99, 116, 111, 114]
  else if k = 4 then [101, 97, 114, 116, 104] else if k = 5 then [105, 110, 102, 101, 101, 100] else if k = 6 then [103, 101, 110, 101, 114, 97, 116, 111, 114] else []
def wNode : List UInt8 := [110, 111, 100, 101]
def wCus : List UInt8 := [99, 117, 115, 116, 111, 109, 101, 114, 115]
def wCom : List UInt8 := [99, 111, 109, 112, 97, 110, 121]
def lim : Int := 1073741824
/-- the words of a node's line -/
def ndW (x : Nd) : List (List UInt8) := [wNode, x.nm.data.toList, wCus, Lib.itoa x.cu, wCom, Lib.itoa x.co]
/-- the words of a device's line -/
def dvW (ns : List Nd) (d : Dv) : List (List UInt8) :=
  if 1 ≤ d.ki ∧ d.ki ≤ 3 then [kw d.ki, d.nm.data.toList, (ns.getD d.a.toNat default).nm.data.toList, (ns.getD d.b.toNat default).nm.data.toList, wCom, Lib.itoa d.co]
  else [kw d.ki, d.nm.data.toList, (ns.getD d.a.toNat default).nm.data.toList, wCom, Lib.itoa d.co]
def printW (ns : List Nd) (ds : List Dv) : List (List (List UInt8)) := ns.map ndW ++ ds.map (dvW ns)
def printT (ns : List Nd) (ds : List Dv) : List UInt8 := textOf ((printW ns ds).map fun ws => Lib.join ws [32])

/-- which kind a word is; 0: none -/
def kindOf (w : List UInt8) : Int := if w = kw 1 then 1 else if w = kw 2 then 2 else if w = kw 3 then 3 else if w = kw 4 then 4 else if w = kw 5 then 5 else if w = kw 6 then 6 else 0
theorem kindOf_kw {k : Int} (h1 : 1 ≤ k) (h6 : k ≤ 6) : kindOf (kw k) = k := by
  rcases (show k = 1 ∨ k = 2 ∨ k = 3 ∨ k = 4 ∨ k = 5 ∨ k = 6 by omega) with rfl | rfl | rfl | rfl | rfl | rfl <;> rfl
theorem kindOf_in (w : List UInt8) : 0 ≤ kindOf w ∧ kindOf w ≤ 6 := by unfold kindOf; repeat' split
                                                                       all_goals omega
theorem kw_node {k : Int} : kw k ≠ wNode := by
  unfold kw wNode
  repeat' split
  all_goals decide
def at_ (ws : List (List UInt8)) (i : Nat) : List UInt8 := ws.getD i []
/-- what is wrong with a line's words; 0: nothing -/
def addE (ns : List Nd) (ws : List (List UInt8)) : Int :=
  if at_ ws 0 = wNode then (if ws.length = 6 ∧ at_ ws 2 = wCus ∧ at_ ws 4 = wCom ∧ numB (at_ ws 3) lim = true ∧ numB (at_ ws 5) lim = true then 0 else 2)
  else if kindOf (at_ ws 0) = 0 then 2
  else if kindOf (at_ ws 0) ≤ 3 then (if ws.length = 6 ∧ at_ ws 4 = wCom ∧ numB (at_ ws 5) lim = true then (if fnd (nmsN ns) (bs (at_ ws 2)) = -1 ∨ fnd (nmsN ns) (bs (at_ ws 3)) = -1 then 3 else 0) else 2)
  else (if ws.length = 5 ∧ at_ ws 3 = wCom ∧ numB (at_ ws 4) lim = true then (if fnd (nmsN ns) (bs (at_ ws 2)) = -1 then 3 else 0) else 2)
/-- what a line's words add -/
def addS (st : List Nd × List Dv) (ws : List (List UInt8)) : List Nd × List Dv :=
  if at_ ws 0 = wNode then (st.1 ++ [⟨bs (at_ ws 1), numV (at_ ws 3) lim, numV (at_ ws 5) lim⟩], st.2)
  else if kindOf (at_ ws 0) ≤ 3 then (st.1, st.2 ++ [⟨bs (at_ ws 1), kindOf (at_ ws 0), fnd (nmsN st.1) (bs (at_ ws 2)), fnd (nmsN st.1) (bs (at_ ws 3)), numV (at_ ws 5) lim⟩])
  else (st.1, st.2 ++ [⟨bs (at_ ws 1), kindOf (at_ ws 0), fnd (nmsN st.1) (bs (at_ ws 2)), -1, numV (at_ ws 4) lim⟩])
/-- a line that does not matter -/
def skipB (ws : List (List UInt8)) : Bool := ws.isEmpty || ((at_ ws 0).head? == some 35)
/-- line by line: the network, the number of the wrong line, the error -/
def runW : Nat → List Nd × List Dv → List (List (List UInt8)) → (List Nd × List Dv) × Nat × Int
  | _, st, [] => (st, 0, 0)
  | i, st, ws :: r => if skipB ws = true then runW (i + 1) st r else if addE st.1 ws = 0 then runW (i + 1) (addS st ws) r else (([], []), i + 1, addE st.1 ws)
def parseR (s : List UInt8) : (List Nd × List Dv) × Nat × Int :=
  match lines s with
  | none => (([], []), 0, 2)
  | some L => if (runW 0 ([], []) (L.map words)).2.2 = 0 then (if chk (runW 0 ([], []) (L.map words)).1.1 (runW 0 ([], []) (L.map words)).1.2 = 0 then runW 0 ([], []) (L.map words) else (([], []), 0, chk (runW 0 ([], []) (L.map words)).1.1 (runW 0 ([], []) (L.map words)).1.2)) else runW 0 ([], []) (L.map words)

/-! lines that are right, one after the other -/
inductive Run : List Nd × List Dv → List (List (List UInt8)) → List Nd × List Dv → Prop
  | nil (st) : Run st [] st
  | skip {st st' ws r} (h : skipB ws = true) (k : Run st r st') : Run st (ws :: r) st'
  | add {st st' ws r} (h : skipB ws = false) (e : addE st.1 ws = 0) (k : Run (addS st ws) r st') : Run st (ws :: r) st'
theorem Run.runW {st st' : List Nd × List Dv} {r : List (List (List UInt8))} (h : Run st r st') : ∀ i, runW i st r = (st', 0, 0) := by
  induction h with
  | nil st => intro i; rfl
  | skip h _ ih => intro i; rw [mod.runW, if_pos h]; exact ih _
  | add h e _ ih => intro i; rw [mod.runW, if_neg (by simp [h]), if_pos e]; exact ih _
theorem Run.append {st st' st'' : List Nd × List Dv} {r r' : List (List (List UInt8))} (h : Run st r st') (k : Run st' r' st'') : Run st (r ++ r') st'' := by
  induction h with
  | nil st => exact k
  | skip h _ ih => exact .skip h (ih k)
  | add h e _ ih => exact .add h e (ih k)
theorem Run.parse {s : List UInt8} {L : List (List UInt8)} {ns : List Nd} {ds : List Dv} (hL : lines s = some L) (h : Run ([], []) (L.map words) (ns, ds)) (hc : chk ns ds = 0) : parseR s = ((ns, ds), 0, 0) := by
  unfold parseR
  rw [hL]
  simp only [h.runW 0, hc, if_true]
/-- the first wrong line -/
theorem runW_wrong {st st' : List Nd × List Dv} {r : List (List (List UInt8))} (h : Run st r st') (ws : List (List UInt8)) (hs : skipB ws = false) (he : addE st'.1 ws ≠ 0) (r' : List (List (List UInt8))) : ∀ i, runW i st (r ++ ws :: r') = (([], []), i + r.length + 1, addE st'.1 ws) := by
  induction h with
  | nil st => intro i; rw [List.nil_append, mod.runW, if_neg (by simp [hs]), if_neg he]; rfl
  | skip h _ ih => intro i; rw [List.cons_append, mod.runW, if_pos h, ih he, List.length_cons]; congr 2; omega
  | add h e _ ih => intro i; rw [List.cons_append, mod.runW, if_neg (by simp [h]), if_pos e, ih he, List.length_cons]; congr 2; omega
theorem skip_kw {k : Int} (h1 : 1 ≤ k) (h6 : k ≤ 6) (r : List (List UInt8)) : skipB (kw k :: r) = false := by
  rcases (show k = 1 ∨ k = 2 ∨ k = 3 ∨ k = 4 ∨ k = 5 ∨ k = 6 by omega) with rfl | rfl | rfl | rfl | rfl | rfl <;> rfl
theorem numV_lim {n : Int} (h0 : 0 ≤ n) (h1 : n ≤ lim) : numB (Lib.itoa n) lim = true ∧ numV (Lib.itoa n) lim = n := by
  refine ⟨?_, ?_⟩
  · rw [numB_itoa, decide_eq_true h0, decide_eq_true h1]; rfl
  · rw [numV_itoa, if_pos ⟨h0, h1⟩]
theorem run_node (st : List Nd × List Dv) (x : Nd) (h0 : 0 ≤ x.cu) (h1 : x.cu ≤ lim) (h2 : 0 ≤ x.co) (h3 : x.co ≤ lim) : Run st [ndW x] (st.1 ++ [x], st.2) := by
  obtain ⟨c1, c2⟩ := numV_lim h0 h1
  obtain ⟨o1, o2⟩ := numV_lim h2 h3
  have e : addS st (ndW x) = (st.1 ++ [x], st.2) := by
    unfold addS ndW at_
    simp only [List.getD_cons_zero, List.getD_cons_succ, if_true, bs_of, c2, o2]
  rw [← e]
  refine .add rfl ?_ (.nil _)
  unfold addE ndW at_
  simp [c1, o1]
theorem run_dev (st : List Nd × List Dv) (ns : List Nd) (d : Dv) (hk1 : 1 ≤ d.ki) (hk6 : d.ki ≤ 6) (h2 : 0 ≤ d.co) (h3 : d.co ≤ lim) (ha : 0 ≤ d.a) (hfa : fnd (nmsN st.1) (ns.getD d.a.toNat default).nm = d.a)
    (hb : 1 ≤ d.ki ∧ d.ki ≤ 3 → 0 ≤ d.b ∧ fnd (nmsN st.1) (ns.getD d.b.toNat default).nm = d.b) (hb' : ¬ (1 ≤ d.ki ∧ d.ki ≤ 3) → d.b = -1) : Run st [dvW ns d] (st.1, st.2 ++ [d]) := by
  obtain ⟨o1, o2⟩ := numV_lim h2 h3
  have hne : kw d.ki ≠ wNode := kw_node
  have hko := kindOf_kw hk1 hk6
  by_cases hj : 1 ≤ d.ki ∧ d.ki ≤ 3
  · obtain ⟨b0, b1⟩ := hb hj
    have e : addS st (dvW ns d) = (st.1, st.2 ++ [d]) := by
      unfold addS dvW at_
      simp only [if_pos hj, List.getD_cons_zero, List.getD_cons_succ, if_neg hne, bs_of, o2, hko, if_pos hj.2, hfa, b1]
    rw [← e]
    refine .add ?_ ?_ (.nil _)
    · unfold dvW; rw [if_pos hj]; exact skip_kw hk1 hk6 _
    · unfold addE dvW at_
      simp only [if_pos hj, List.getD_cons_zero, List.getD_cons_succ, if_neg hne, bs_of, hko, if_pos hj.2, hfa, b1, o1]
      rw [if_neg (by omega), if_pos ⟨rfl, trivial, trivial⟩, if_neg (by omega)]
  · have b1 := hb' hj
    have e : addS st (dvW ns d) = (st.1, st.2 ++ [d]) := by
      unfold addS dvW at_
      simp only [if_neg hj, List.getD_cons_zero, List.getD_cons_succ, if_neg hne, bs_of, o2, hko, hfa]
      rw [if_neg (by omega), ← b1]
    rw [← e]
    refine .add ?_ ?_ (.nil _)
    · unfold dvW; rw [if_neg hj]; exact skip_kw hk1 hk6 _
    · unfold addE dvW at_
      simp only [if_neg hj, List.getD_cons_zero, List.getD_cons_succ, if_neg hne, bs_of, hko, hfa, o1]
      rw [if_neg (by omega), if_neg (by omega), if_pos ⟨rfl, trivial, trivial⟩, if_neg (by omega)]
/-- a valid network's names are where they stand, in every beginning that holds them -/
theorem fnd_take {ns : List Nd} {ds : List Dv} (hc : chk ns ds = 0) (v a : Nat) (hv : a < v) (hvn : v ≤ ns.length) : fnd (nmsN (ns.take v)) (ns.getD a default).nm = a := by
  have hnd : ∀ i, i < ns.length → ndsE ns i = 0 := by
    have hs := chk_small hc
    unfold chk at hc
    rw [if_neg (by omega)] at hc
    by_cases e : fe (ndsE ns) ns.length = 0
    · exact fe_zero e
    · rw [if_neg e] at hc; exact absurd hc e
  have hal : a < ns.length := by omega
  have h0 := hnd a hal
  have hget : ns.getD a default = ns[a] := by rw [List.getD_eq_getElem?_getD, List.getElem?_eq_getElem hal]; rfl
  unfold ndsE at h0
  have hp := (ndE_parts h0).2.1
  rw [hget] at hp ⊢
  have hno := fnd_not hp
  refine fnd_hit (by simp [nmsN]; omega) (by simp [nmsN]) (fun i hi hia => ?_)
  have := hno i (by simp [nmsN]; omega)
  simpa [nmsN] using this
/-- what was printed is read as it was -/
theorem run_print {ns : List Nd} {ds : List Dv} (hc : chk ns ds = 0) : Run ([], []) (printW ns ds) (ns, ds) := by
  have hs := chk_small hc
  have hnd : ∀ i, i < ns.length → ndsE ns i = 0 := by
    have h2 := hc
    unfold chk at h2
    rw [if_neg (by omega)] at h2
    by_cases e : fe (ndsE ns) ns.length = 0
    · exact fe_zero e
    · rw [if_neg e] at h2; exact absurd h2 e
  have hN : ∀ k, k ≤ ns.length → Run ([], []) ((ns.take k).map ndW) (ns.take k, []) := by
    intro k
    induction k with
    | zero => intro _; exact .nil _
    | succ k ih =>
      intro hk
      have hkl : k < ns.length := by omega
      rw [List.take_succ_eq_append_getElem hkl, List.map_append]
      refine (ih (by omega)).append ?_
      have h0 := hnd k hkl
      unfold ndsE at h0
      rw [List.getD_eq_getElem?_getD, List.getElem?_eq_getElem hkl] at h0
      obtain ⟨-, -, p1, p2, p3, p4⟩ := ndE_parts h0
      have := run_node (ns.take k, []) ns[k] p1 (by unfold lim; exact Int.le_trans p2 (by decide)) p3 (by unfold lim; exact Int.le_trans p4 (by decide))
      exact this
  have hD : ∀ k, k ≤ ds.length → Run (ns, []) ((ds.take k).map (dvW ns)) (ns, ds.take k) := by
    intro k
    induction k with
    | zero => intro _; exact .nil _
    | succ k ih =>
      intro hk
      have hkl : k < ds.length := by omega
      rw [List.take_succ_eq_append_getElem hkl, List.map_append]
      refine (ih (by omega)).append ?_
      have h0 := chk_dv hc k hkl
      have hits := chk_its hc k hkl
      unfold dvsE at h0
      rw [List.getD_eq_getElem?_getD, List.getElem?_eq_getElem hkl] at h0 hits
      obtain ⟨-, -, -, p1, -, p3, p4⟩ := dvE_parts h0
      obtain ⟨⟨a0, a1⟩, hb⟩ := itsB_parts hits
      have ft : ∀ z : Int, 0 ≤ z → z < ns.length → fnd (nmsN ns) (ns.getD z.toNat default).nm = z := fun z z0 z1 => by
        have := fnd_take hc ns.length z.toNat (by omega) (Nat.le_refl _)
        rw [List.take_length] at this
        rw [this]; omega
      exact run_dev (ns, ds.take k) ns ds[k] p1.1 p1.2 p3 (by unfold lim; exact Int.le_trans p4 (by decide)) a0 (ft _ a0 a1) (fun hj => by
        rcases hb with ⟨_, b0, b1, _⟩ | ⟨hb, _⟩
        · exact ⟨b0, ft _ b0 b1⟩
        · exact absurd hj hb) (fun hj => by
        rcases hb with ⟨hb, _⟩ | ⟨_, hb⟩
        · exact absurd hb hj
        · exact hb)
  have h1 := hN ns.length (Nat.le_refl _)
  have h2 := hD ds.length (Nat.le_refl _)
  rw [List.take_length] at h1 h2
  unfold printW
  exact h1.append h2
end Go.Proofs.YtdgllaiejhnjmaaDoor.mod
