/- copy between slices of structs, k cells an element, the target in a row that is known whole; overlaps at two blocks; the list facts of slices.Insert and slices.Delete. No program in this text. -/
import Derived.Test.YthdjpmiohfaphaaGreatDoorAggs
import Derived.Laws.CopyRow
import Derived.Laws.AppendOwn
import Derived.Deep.RegionLaw
import Derived.Lib.Overlaps
import Derived.Lib.AppendZerosOnto
namespace Go.Proofs.YthdjpmiohfaphaaGreatDoor.slk
open Go.RowKit

theorem gb_setRow (w : World) (g : Nat) (cs : Array Value) : w.grownBy (w.setRow g cs) (some g) := ⟨rfl, rfl, rfl, by simp [World.setRow], fun k _ hk => setRow_other w g k cs (fun e => hk (by rw [e]))⟩
theorem run_copy_k {P : Program} (w : World) (dT sT ty elem : TypeId) (k g o dLen dCap : Nat) (a : Addr) (sLen sCap : Nat) (cur : Array Value) (t : TypeId) (cs : List Value) (n : Nat)
    (hu : P.underlying dT = some (.slice elem)) (hs : (P.info? elem).map (·.size) = some k) (hg : w.heap[g]? = some (.cells cur t (0, 0))) (hn : n = Nat.min sLen dLen) (hl : cs.length = n * k)
    (hsrc : ∀ j v, cs[j]? = some v → w.cell? (a.add j) = some v) (hfit : o + cs.length ≤ cur.size) (h1 : ∀ v ∈ cs, v.oneCell' = true) :
    (Builtin.copy_ #[dT, sT] ty #[.slice (some ⟨g, o, none⟩) dLen dCap, .slice (some a) sLen sCap]).run P w =
      .ok (goInt n) (w.setRow g (cur.toList.take o ++ cs ++ cur.toList.drop (o + cs.length)).toArray) := by
  have hf := run_firstCells_some (P := P) w k n a sLen sCap cs hl hsrc
  have hst := run_storeCells_at P g o t cs 0 cur w hg (by simpa using hfit) h1
  simp only [Nat.add_zero] at hst
  cases hq : P.info? elem with
  | none => simp [hq] at hs
  | some i =>
    have hi : i.size = k := by simpa [hq] using hs
    simp [Builtin.copy_, run_underlying hu, Builtin.lenOf, sizeOf, typeInfo, hq, hi, ← hn, hf, hst]
theorem wpList_copy_k {P : Program} {w : World} {ops : Array Oper} {rest : List Oper} {o : Oper} {a : Act} {Q : Exit → Act → World → Prop} (hgd : o.guard = none) (d s : Operand) (dT sT : TypeId)
    (ho : o.op = .call { callee := .builtin .copy, args := #[d, s], argTypes := #[dT, sT] }) (elem : TypeId) (hu : P.underlying dT = some (.slice elem)) (k : Nat) (hsz : (P.info? elem).map (·.size) = some k)
    (g off dLen dCap : Nat) (ad : Addr) (sLen sCap : Nat) (hd : a.eval d = .slice (some ⟨g, off, none⟩) dLen dCap) (hs : a.eval s = .slice (some ad) sLen sCap)
    (cur : Array Value) (t : TypeId) (hg : w.heap[g]? = some (.cells cur t (0, 0))) (cs : List Value) (n : Nat) (hn : n = Nat.min sLen dLen) (hl : cs.length = n * k)
    (hsrc : ∀ j v, cs[j]? = some v → w.cell? (ad.add j) = some v) (hfit : off + cs.length ≤ cur.size) (h1 : ∀ v ∈ cs, v.oneCell' = true)
    (h : ∀ w', Hid (w'.heap[g]? = some (.cells (cur.toList.take off ++ cs ++ cur.toList.drop (off + cs.length)).toArray t (0, 0))) → w.grownBy w' (some g) → wpList P ops Q rest (a.put o.dst (goInt n)) w') : wpList P ops Q (o :: rest) a w := by
  refine wpList_plain hgd fun K hK => ?_
  have hrun := run_copy_k (P := P) w dT sT o.type elem k g off dLen dCap ad sLen sCap cur t cs n hu hsz hg hn hl hsrc hfit h1
  unfold Oper.wp
  simp [execOp, ho, resolve, invoke, builtin, hd, hs, hrun, Result.andThen]
  exact hK _ _ (h _ (show _ = _ by simpa using setRow_heap w g cur _ t _ hg) (gb_setRow w g _))
theorem step_copy_k {P : Program} {ops : Array Oper} {o : Oper} {a : Act} {w : World} {K : Act → World → Prop} {Q : Exit → Act → World → Prop} {E : Prop} (hgd : o.guard = none) (d s : Operand) (dT sT : TypeId)
    (ho : o.op = .call { callee := .builtin .copy, args := #[d, s], argTypes := #[dT, sT] }) (elem : TypeId) (hu : P.underlying dT = some (.slice elem)) (k : Nat) (hsz : (P.info? elem).map (·.size) = some k)
    (g off dLen dCap : Nat) (ad : Addr) (sLen sCap : Nat) (hd : a.eval d = .slice (some ⟨g, off, none⟩) dLen dCap) (hs : a.eval s = .slice (some ad) sLen sCap)
    (cur : Array Value) (t : TypeId) (hg : w.heap[g]? = some (.cells cur t (0, 0))) (cs : List Value) (n : Nat) (hn : n = Nat.min sLen dLen) (hl : cs.length = n * k)
    (hsrc : ∀ j v, cs[j]? = some v → w.cell? (ad.add j) = some v) (hfit : off + cs.length ≤ cur.size) (h1 : ∀ v ∈ cs, v.oneCell' = true)
    (h : ∀ w', Hid (w'.heap[g]? = some (.cells (cur.toList.take off ++ cs ++ cur.toList.drop (off + cs.length)).toArray t (0, 0))) → w.grownBy w' (some g) → K (a.put o.dst (goInt n)) w') :
    if Region.wanted o (yielded ops a.tmps) = true then Oper.wp P o a w K Q else E := by
  have hw : Region.wanted o (yielded ops a.tmps) = true := by simp [Region.wanted, hgd]
  rw [if_pos hw]
  have hrun := run_copy_k (P := P) w dT sT o.type elem k g off dLen dCap ad sLen sCap cur t cs n hu hsz hg hn hl hsrc hfit h1
  unfold Oper.wp
  simp [execOp, ho, resolve, invoke, builtin, hd, hs, hrun, Result.andThen]
  exact h _ (show _ = _ by simpa using setRow_heap w g cur _ t _ hg) (gb_setRow w g _)

/-- append in place, as a step of a region: to the front of a row that is known whole -/
theorem step_app_front {P : Program} {ops : Array Oper} {o : Oper} {a : Act} {w : World} {K : Act → World → Prop} {Q : Exit → Act → World → Prop} {E : Prop} (hgd : o.guard = none) (d s : Operand) (t : TypeId)
    (ho : o.op = .call { callee := .builtin .append, args := #[d, s], argTypes := #[t, t] }) (e : TypeId) (i : TypeInfo) (ht : P.underlying t = some (.slice e)) (hi : P.info? e = some i) (k : Nat) (hk : i.size = k)
    (g sLen sCap : Nat) (hd : a.eval d = .slice (some ⟨g, 0, none⟩) sLen sCap) (cur : Array Value) (hg : w.heap[g]? = some (.cells cur e (0, 0)))
    (ad : Addr) (m c : Nat) (hs : a.eval s = .slice (some ad) m c) (news : List Value) (hl : news.length = m * k) (hnews : ∀ j u, news[j]? = some u → w.cell? (ad.add j) = some u) (h1 : ∀ u ∈ news, u.oneCell' = true)
    (hroom : sLen + m ≤ sCap) (hfit : sLen * k + news.length ≤ cur.size)
    (h : ∀ w', Hid (w'.heap[g]? = some (.cells (cur.toList.take (sLen * k) ++ news ++ cur.toList.drop (sLen * k + news.length)).toArray e (0, 0))) → w.grownBy w' (some g) → K (a.put o.dst (.slice (some ⟨g, 0, none⟩) (sLen + m) sCap)) w') :
    if Region.wanted o (yielded ops a.tmps) = true then Oper.wp P o a w K Q else E := by
  have hw : Region.wanted o (yielded ops a.tmps) = true := by simp [Region.wanted, hgd]
  rw [if_pos hw]
  subst hk
  have hrun := run_append_room (P := P) w t o.type e i ht hi g sLen sCap cur hg ad m c news hl hnews h1 hroom hfit
  unfold Oper.wp
  simp [execOp, ho, resolve, invoke, builtin, hd, hs, hrun, Result.andThen]
  exact h _ (show _ = _ by simpa using setRow_heap w g cur _ e _ hg) (gb_setRow w g _)
/-- clear of a slice of structs in a row that is known whole -/
theorem wpList_clear_k {P : Program} {w : World} {ops : Array Oper} {rest : List Oper} {o : Oper} {a : Act} {Q : Exit → Act → World → Prop} (hgd : o.guard = none) (d : Operand) (t : TypeId)
    (ho : o.op = .call { callee := .builtin .clear, args := #[d], argTypes := #[t] }) (e : TypeId) (ht : P.underlying t = some (.slice e)) (z : Value) (k : Nat) (hz : ∀ w, (zeroValue e).run P w = .ok z w) (hzk : z.cells.size = k) (hz1 : ∀ v ∈ z.cells.toList, v.oneCell' = true)
    (g off n c : Nat) (hd : a.eval d = .slice (some ⟨g, off, none⟩) n c) (hn : 0 < n) (cur : Array Value) (hg : w.heap[g]? = some (.cells cur e (0, 0))) (hfit : off + n * k ≤ cur.size)
    (h : ∀ w' A, Hid (w'.heap[g]? = some (.cells A e (0, 0))) → A.size = cur.size → A.toList.take off = cur.toList.take off → w.grownBy w' (some g) → wpList P ops Q rest (a.put o.dst (.tuple #[])) w') : wpList P ops Q (o :: rest) a w := by
  refine wpList_plain hgd fun K hK => ?_
  obtain ⟨Z, hZ⟩ : ∃ Z, (Builtin.zeroCells z.cells n).toList = Z := ⟨_, rfl⟩
  have hZl : Z.length = n * k := by rw [← hZ, Array.length_toList, size_zeroCells, hzk]
  have hZ1 : ∀ v ∈ Z, v.oneCell' = true := fun v hv => by
    rw [← hZ, Array.mem_toList_iff] at hv
    obtain ⟨i, hi, rfl⟩ := Array.mem_map.1 hv
    have hs : i % z.cells.size < z.cells.size := Nat.mod_lt _ (by
      rcases Nat.eq_zero_or_pos z.cells.size with h0 | h0
      · rw [h0, Nat.mul_zero] at hi; simp at hi
      · exact h0)
    refine hz1 _ ?_
    rw [getElem!_pos z.cells _ hs]
    exact Array.getElem_mem_toList hs
  have hst := run_storeCells_at P g off e Z 0 cur w hg (by rw [hZl]; simpa using hfit) hZ1
  simp only [Nat.add_zero] at hst
  obtain ⟨m, rfl⟩ : ∃ m, n = m + 1 := ⟨n - 1, by omega⟩
  have hrun : ∀ ty, (Builtin.clear_ #[t] ty #[.slice (some ⟨g, off, none⟩) (m + 1) c]).run P w = .ok (.tuple #[]) (w.setRow g (cur.toList.take off ++ Z ++ cur.toList.drop (off + Z.length)).toArray) := fun ty => by
    simp [Builtin.clear_, run_underlying ht, hz, hZ, hst]
  unfold Oper.wp
  simp [execOp, ho, resolve, invoke, builtin, hd, hrun, Result.andThen]
  refine hK _ _ (h _ (cur.toList.take off ++ Z ++ cur.toList.drop (off + Z.length)).toArray (show _ = _ by simpa using setRow_heap w g cur _ e _ hg) ?_ ?_ (by simpa using gb_setRow w g _))
  · rw [List.size_toArray]
    simp only [List.length_append, List.length_take, List.length_drop, Array.length_toList, hZl]
    omega
  · rw [List.append_assoc, List.take_append_of_le_length (by rw [List.length_take, Array.length_toList]; omega), List.take_take, Nat.min_self]

/-! lists -/
theorem take_parts {α : Type} (A B C : List α) (N : Nat) (h : A.length + B.length = N) : (A ++ B ++ C).take N = A ++ B := by
  rw [List.take_left' (by rw [List.length_append]; exact h)]
/-- slices.Insert with room: first the rest is moved, then the new one is laid -/
theorem list_shift {α : Type} (L F E : List α) (i n k : Nat) (hF : L.take (n * k) = F) (hFl : F.length = n * k) (hE : E.length = k) (hi : i ≤ n) (hL : (n + 1) * k ≤ L.length) :
    (((L.take ((i + 1) * k) ++ F.drop (i * k) ++ L.drop ((i + 1) * k + (F.drop (i * k)).length)).take (i * k) ++ E ++ (L.take ((i + 1) * k) ++ F.drop (i * k) ++ L.drop ((i + 1) * k + (F.drop (i * k)).length)).drop (i * k + E.length))).take ((n + 1) * k) = F.take (i * k) ++ E ++ F.drop (i * k) := by
  have h1 : i * k ≤ n * k := Nat.mul_le_mul_right k hi
  have h2 : (i + 1) * k = i * k + k := by rw [Nat.add_mul, Nat.one_mul]
  have h3 : (n + 1) * k = n * k + k := by rw [Nat.add_mul, Nat.one_mul]
  have hA : (L.take ((i + 1) * k)).length = i * k + k := by rw [List.length_take]; omega
  have e1 : (L.take ((i + 1) * k) ++ F.drop (i * k) ++ L.drop ((i + 1) * k + (F.drop (i * k)).length)).take (i * k) = F.take (i * k) := by
    rw [List.append_assoc, List.take_append_of_le_length (by omega), List.take_take, Nat.min_eq_left (by omega), ← hF, List.take_take, Nat.min_eq_left h1]
  have e2 : (L.take ((i + 1) * k) ++ F.drop (i * k) ++ L.drop ((i + 1) * k + (F.drop (i * k)).length)).drop (i * k + E.length) = F.drop (i * k) ++ L.drop ((i + 1) * k + (F.drop (i * k)).length) := by
    rw [List.append_assoc, List.drop_left' (by omega)]
  rw [e1, e2, ← List.append_assoc]
  refine take_parts _ _ _ _ ?_
  rw [List.length_append, List.length_take, List.length_drop]; omega
/-- slices.Insert without room: the new row's rest is laid behind what stood first and the new one -/
theorem list_grow {α : Type} (L F E : List α) (i n k : Nat) (hF : L.take (i * k) = F.take (i * k)) (hFl : F.length = n * k) (hE : E.length = k) (hi : i ≤ n) (hL : (n + 1) * k ≤ L.length) :
    (((L.take (i * k) ++ E ++ L.drop (i * k + E.length)).take ((i + 1) * k) ++ F.drop (i * k) ++ (L.take (i * k) ++ E ++ L.drop (i * k + E.length)).drop ((i + 1) * k + (F.drop (i * k)).length))).take ((n + 1) * k) = F.take (i * k) ++ E ++ F.drop (i * k) := by
  have h1 : i * k ≤ n * k := Nat.mul_le_mul_right k hi
  have h2 : (i + 1) * k = i * k + k := by rw [Nat.add_mul, Nat.one_mul]
  have h3 : (n + 1) * k = n * k + k := by rw [Nat.add_mul, Nat.one_mul]
  have e1 : (L.take (i * k) ++ E ++ L.drop (i * k + E.length)).take ((i + 1) * k) = F.take (i * k) ++ E := by
    rw [take_parts _ _ _ _ (by rw [List.length_take]; omega), hF]
  rw [e1]
  refine take_parts _ _ _ _ ?_
  rw [List.length_append, List.length_take, List.length_drop]; omega
/-- slices.Delete: what stood behind is moved to the front -/
theorem list_delete {α : Type} (L F : List α) (i n k : Nat) (hF : L.take (n * k) = F) (hFl : F.length = n * k) (hi : i < n) (hL : n * k ≤ L.length) :
    (L.take (i * k) ++ F.drop ((i + 1) * k) ++ L.drop (i * k + (F.drop ((i + 1) * k)).length)).take ((n - 1) * k) = F.take (i * k) ++ F.drop ((i + 1) * k) := by
  have h1 : (i + 1) * k ≤ n * k := Nat.mul_le_mul_right k hi
  have h2 : (i + 1) * k = i * k + k := by rw [Nat.add_mul, Nat.one_mul]
  have h3 : n * k = (n - 1) * k + k := by
    obtain ⟨m, rfl⟩ : ∃ m, n = m + 1 := ⟨n - 1, by omega⟩
    rw [Nat.add_mul, Nat.one_mul]; rfl
  have e1 : L.take (i * k) = F.take (i * k) := by rw [← hF, List.take_take, Nat.min_eq_left (by omega)]
  rw [e1]
  refine take_parts _ _ _ _ ?_
  rw [List.length_take, List.length_drop]; omega
end Go.Proofs.YthdjpmiohfaphaaGreatDoor.slk
