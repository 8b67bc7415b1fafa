/- What Check says of a valid network of which one thing is turned; Way of a network that is not valid. -/
import Derived.Test.YtleggojgcaefdaaDoorNetN
namespace Go.Proofs.YtleggojgcaefdaaDoor.net
open Go.RowKit lex aggs kit deck

theorem chk_nd {ns : List Nd} {ds : List Dv} (h : chk ns ds = 0) : fe (ndsE ns) ns.length = 0 ∧ ∀ i, i < ns.length → ndsE ns i = 0 := by
  have hs := chk_small h
  unfold chk at h
  rw [if_neg (by omega)] at h
  by_cases e : fe (ndsE ns) ns.length = 0
  · exact ⟨e, fe_zero e⟩
  · rw [if_neg e] at h; exact absurd h e
theorem set_take {α : Type} (l : List α) (v i : Nat) (x : α) (h : i ≤ v) : (l.set v x).take i = l.take i := by
  apply List.ext_getElem?
  intro k
  rw [List.getElem?_take, List.getElem?_take]
  by_cases hk : k < i
  · rw [if_pos hk, if_pos hk, List.getElem?_set_ne (by omega)]
  · rw [if_neg hk, if_neg hk]
theorem chk_node_err {ns : List Nd} {ds : List Dv} (h : chk ns ds = 0) (v : Nat) (hv : v < ns.length) (x : Nd) (E : Int) (hE : ndE (nmsN (ns.take v)) x = E) (hne : E ≠ 0) : chk (ns.set v x) ds = E := by
  have hs := chk_small h
  have hz := (chk_nd h).2
  have hlow : ∀ i, i < v → ndsE (ns.set v x) i = 0 := fun i hi => by
    have := hz i (by omega)
    unfold ndsE at this ⊢
    rw [set_take ns v i x (by omega), List.getD_eq_getElem?_getD, List.getElem?_set_ne (by omega), ← List.getD_eq_getElem?_getD]
    exact this
  have hat : ndsE (ns.set v x) v = E := by
    unfold ndsE
    rw [set_take ns v v x (Nat.le_refl _), List.getD_eq_getElem?_getD, List.getElem?_set_self hv]; exact hE
  have hf : fe (ndsE (ns.set v x)) (ns.set v x).length = E := by
    rw [fe_hit (j := v) (by simpa using hv) hlow (by rw [hat]; exact hne), hat]
  unfold chk
  rw [if_neg (by rw [List.length_set]; omega), hf, if_neg hne]
theorem chk_dev_err {ns : List Nd} {ds : List Dv} (h : chk ns ds = 0) (v : Nat) (hv : v < ds.length) (x : Dv) (E : Int) (hE : dvE (nmsN ns) (nmsD (ds.take v)) ns.length x = E) (hne : E ≠ 0) : chk ns (ds.set v x) = E := by
  have hs := chk_small h
  have hz := chk_nd h
  have hd := chk_dv h
  have hlow : ∀ i, i < v → dvsE ns (ds.set v x) i = 0 := fun i hi => by
    have := hd i (by omega)
    unfold dvsE at this ⊢
    rw [set_take ds v i x (by omega), List.getD_eq_getElem?_getD, List.getElem?_set_ne (by omega), ← List.getD_eq_getElem?_getD]
    exact this
  have hat : dvsE ns (ds.set v x) v = E := by
    unfold dvsE
    rw [set_take ds v v x (Nat.le_refl _), List.getD_eq_getElem?_getD, List.getElem?_set_self hv]; exact hE
  have hf : fe (dvsE ns (ds.set v x)) (ds.set v x).length = E := by
    rw [fe_hit (j := v) (by simpa using hv) hlow (by rw [hat]; exact hne), hat]
  unfold chk
  rw [if_neg (by rw [List.length_set]; omega), hz.1, if_pos rfl, hf]
/-- the parts of a node, of a device, of a valid network -/
theorem chk_node_parts {ns : List Nd} {ds : List Dv} (h : chk ns ds = 0) (v : Nat) (hv : v < ns.length) : nameB ns[v].nm.data.toList = true ∧ fnd (nmsN (ns.take v)) ns[v].nm = -1 ∧ 0 ≤ ns[v].cu ∧ ns[v].cu ≤ 1048576 ∧ 0 ≤ ns[v].co ∧ ns[v].co ≤ 7 := by
  have := (chk_nd h).2 v hv
  rw [nms_take ns v hv _ rfl] at this
  exact ndE_parts this
theorem chk_dev_parts {ns : List Nd} {ds : List Dv} (h : chk ns ds = 0) (v : Nat) (hv : v < ds.length) : nameB ds[v].nm.data.toList = true ∧ fnd (nmsN ns) ds[v].nm = -1 ∧ fnd (nmsD (ds.take v)) ds[v].nm = -1 ∧ (1 ≤ ds[v].ki ∧ ds[v].ki ≤ 6) ∧ itsB ns.length ds[v] = true ∧ 0 ≤ ds[v].co ∧ ds[v].co ≤ 7 := by
  have := chk_dv h v hv
  rw [dms_take ns ds v hv _ rfl] at this
  exact dvE_parts this
section
variable {ns : List Nd} {ds : List Dv} (h : chk ns ds = 0)
include h
theorem arm0 (v : Nat) (hv : v < ns.length) : chk (ns.set v ⟨⟨#[57]⟩, ns[v].cu, ns[v].co⟩) ds = 3 := by
  refine chk_node_err h v hv _ 3 ?_ (by decide)
  unfold ndE; rw [if_neg (by dsimp only; decide)]
theorem arm1 (i : Nat) (hi : i < ds.length) : chk ns (ds.set i ⟨⟨#[]⟩, ds[i].ki, ds[i].a, ds[i].b, ds[i].co⟩) = 3 := by
  refine chk_dev_err h i hi _ 3 ?_ (by decide)
  unfold dvE; rw [if_neg (by dsimp only; decide)]
theorem arm2 (v i : Nat) (hv : v < ns.length) (hi : i < ds.length) : chk ns (ds.set i ⟨ns[v].nm, ds[i].ki, ds[i].a, ds[i].b, ds[i].co⟩) = 4 := by
  refine chk_dev_err h i hi _ 4 ?_ (by decide)
  unfold dvE
  rw [if_pos (chk_node_parts h v hv).1, if_neg]
  intro hh
  exact fnd_not hh.1 v (by simpa [nmsN] using hv) (by simp [nmsN])
theorem arm3 (v : Nat) (hv : v < ns.length) : chk (ns.set v ⟨ns[v].nm, -1, ns[v].co⟩) ds = 5 := by
  refine chk_node_err h v hv _ 5 ?_ (by decide)
  obtain ⟨p1, p2, _⟩ := chk_node_parts h v hv
  unfold ndE; rw [if_pos p1, if_pos p2, if_neg (fun h => by dsimp only at h; omega)]
theorem arm4 (v : Nat) (hv : v < ns.length) : chk (ns.set v ⟨ns[v].nm, ns[v].cu, 8⟩) ds = 5 := by
  refine chk_node_err h v hv _ 5 ?_ (by decide)
  obtain ⟨p1, p2, _⟩ := chk_node_parts h v hv
  unfold ndE; rw [if_pos p1, if_pos p2, if_neg (fun h => by dsimp only at h; omega)]
theorem arm5 (i : Nat) (hi : i < ds.length) : chk ns (ds.set i ⟨ds[i].nm, 7, ds[i].a, ds[i].b, ds[i].co⟩) = 6 := by
  refine chk_dev_err h i hi _ 6 ?_ (by decide)
  obtain ⟨p1, p2, p3, _⟩ := chk_dev_parts h i hi
  unfold dvE; rw [if_pos p1, if_pos ⟨p2, p3⟩, if_neg (fun h => by dsimp only at h; omega)]
theorem arm6 (i : Nat) (hi : i < ds.length) : chk ns (ds.set i ⟨ds[i].nm, ds[i].ki, ns.length, ds[i].b, ds[i].co⟩) = 7 := by
  refine chk_dev_err h i hi _ 7 ?_ (by decide)
  obtain ⟨p1, p2, p3, p4, _⟩ := chk_dev_parts h i hi
  unfold dvE; rw [if_pos p1, if_pos ⟨p2, p3⟩, if_pos p4, if_neg (fun h => by have := itsB_parts h; dsimp only at this; omega)]
theorem arm7 (i : Nat) (hi : i < ds.length) : chk ns (ds.set i ⟨ds[i].nm, ds[i].ki, ds[i].a, ds[i].a, ds[i].co⟩) = 7 := by
  refine chk_dev_err h i hi _ 7 ?_ (by decide)
  obtain ⟨p1, p2, p3, p4, p5, _⟩ := chk_dev_parts h i hi
  have q := itsB_parts p5
  unfold dvE; rw [if_pos p1, if_pos ⟨p2, p3⟩, if_pos p4, if_neg (fun h => by have := itsB_parts h; dsimp only at this; omega)]
theorem arm8 (i : Nat) (hi : i < ds.length) : chk ns (ds.set i ⟨ds[i].nm, ds[i].ki, ds[i].a, ds[i].b, -1⟩) = 5 := by
  refine chk_dev_err h i hi _ 5 ?_ (by decide)
  obtain ⟨p1, p2, p3, p4, p5, _⟩ := chk_dev_parts h i hi
  have e : itsB ns.length ⟨ds[i].nm, ds[i].ki, ds[i].a, ds[i].b, -1⟩ = itsB ns.length ds[i] := rfl
  unfold dvE; rw [if_pos p1, if_pos ⟨p2, p3⟩, if_pos p4, e, if_pos p5, if_neg (fun h => by dsimp only at h; omega)]
end
set_option maxRecDepth 100000 in
set_option maxHeartbeats 2000000 in
/-- Way of a network that is not valid: whatever may be used -/
theorem way_err (a b : Option Addr) (N c M d : Nat) (y : Value) (ns : List Nd) (ds : List Dv) (f t E : Int) (w : World) (H : HasClasses w) (h : NetIn w a b N c M d ns ds) (hE : chk ns ds = E) (e0 : E ≠ 0) :
    Calls Tryd.prog 28 #[.agg #[.slice a N c, .slice b M d], y, .int .i64 f, .int .i64 t] w fun e w' => e = .returned (.tuple #[.slice none 0 0, .bool false, .int .i64 E]) ∧ Below w.heap.size w w' := by
  have bx := below_box w (.cells #[.slice a N c, .slice b M d] 26)
  have CK := Lib.hid (check_is a b N c M d ns ds E _ (H.below bx) (h.below bx) hE)
  have BX := Lib.hid bx
  have T := bne_t e0
  clear bx H h hE e0
  go_enter Tryd.func28, Tryd.ntmps28
  go_wp2_with fail
  refine CK.out.mono ?_; rintro e w2 ⟨rfl, b2⟩
  have B2 := Lib.hid (BX.out.trans (b2.mono BX.out.size))
  clear b2
  go_wp2
  exact bodyPost_ret (v := .tuple #[.slice none 0 0, .bool false, .int .i64 E]) (by simp [results, Tryd.results28, go_sem]) rfl ⟨rfl, B2.out⟩
end Go.Proofs.YtleggojgcaefdaaDoor.net
