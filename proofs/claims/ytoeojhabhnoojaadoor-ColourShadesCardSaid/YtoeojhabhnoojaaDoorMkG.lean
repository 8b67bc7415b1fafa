/- The walk of 'for _, device := range slices.Backward(unknown)': the iterator's contract; the state with a number. No condition but at most 64 elements. -/
import Derived.RangeFuncNested
import Derived.RangeFuncBound
import Derived.RangeFuncCalls
import Derived.RangeFuncLeaves
import Derived.Shelf.Abstract
import Derived.Shelf.RegionOpen
import Derived.WalkKit
import Derived.OwnWalkIn
import Derived.TacticsInMore
import Derived.LoopNIn
import Derived.LoopIn
import Derived.RangeFuncBox
import Derived.Test.YtoeojhabhnoojaaDoorMkC
namespace Go.Proofs.YtoeojhabhnoojaaDoor.msk
open Go.RowKit Go.Shelf lex aggs kit net deck
attribute [local go_sem] Oper.semAt_some

/-- the blocks of kp read as they did -/
def Kp (kp : Nat → Prop) (W W' : World) : Prop := ∀ k, kp k → W'.heap[k]? = W.heap[k]?
theorem Kp.refl (kp : Nat → Prop) (W : World) : Kp kp W W := fun _ _ => rfl
theorem Kp.trans {kp : Nat → Prop} {A B C : World} (h : Kp kp A B) (k : Kp kp B C) : Kp kp A C := fun i hi => (k i hi).trans (h i hi)
theorem Kp.cell {kp : Nat → Prop} {W W' : World} (h : Kp kp W W') {b i : Nat} (hb : kp b) : W'.cell? ⟨b, i, none⟩ = W.cell? ⟨b, i, none⟩ := World.cell?_of_block (a := ⟨b, i, none⟩) (h b hb)
set_option maxRecDepth 100000 in
set_option maxHeartbeats 2000000 in
/-- the iterator: the elements of a slice from the last to the first, for every loop body that keeps the slice -/
theorem bwd1_in (n : Nat) (hn : 1 ≤ n) (l Bs U cap N : Nat) (a : Option Addr) (us : List (Nat × Fin N)) (hU : us.length = U) (h64 : U ≤ 64) (kp : Nat → Prop) (hk1 : kp Bs) (J Jx : List (Nat × Fin N) → World → Prop)
    (hY : ∀ pre x W, J pre W → pre.length < U → YieldAt Fence.wide (n - 1) Tryd.prog l #[.int .i64 (x.1 : Int), .int .i64 ((x.2 : Nat) : Int)] W fun e W' =>
      (e = .returned (.bool true) ∧ J (pre ++ [x]) W' ∧ Kp kp W W') ∨ (e = .returned (.bool false) ∧ Jx (pre ++ [x]) W'))
    (W : World) (hBs : W.cell? ⟨Bs, 0, none⟩ = some (.slice a U cap)) (_hcap : U ≤ cap)
    (hc : ∀ j (hj : j < us.length), us[j].1 = j ∧ ∃ b off, a = some ⟨b, off, none⟩ ∧ kp b ∧ W.cell? ⟨b, off + j, none⟩ = some (.int .i64 ((us[j].2 : Nat) : Int))) (h0 : J [] W) :
    CallsIn Fence.wide n Tryd.prog 70 #[.func (.yield l) #[] #[], .pointer (some ⟨Bs, 0, none⟩)] W fun e W' => (∃ v, e = .returned v) ∧
      ((∃ ys, ys = us.reverse ∧ J ys W') ∨ (∃ pre, True ∧ Jx pre W')) := by
  have HC := Lib.hid hc
  have HU := Lib.hid hU
  have HBs := Lib.hid hBs
  clear hc hU
  refine callsIn_of_wp Tryd.func70 rfl trivial ?_ rfl
  simp only [Tryd.ntmps70, List.size_toArray, List.length_cons, List.length_nil, Nat.reduceAdd, Nat.reduceSub, Array.replicate_succ, Array.replicate_zero, List.push_toArray, List.append_toArray, List.nil_append, List.cons_append]
  gi_wp2
  gi_loopw [3] (fun i wr => ∃ (k : Nat) (z : Int), k ≤ U ∧ z + 1 + k = U ∧ i = .int .i64 z ∧ J (us.reverse.take k) wr ∧ Kp kp W wr) (fun i _ => (intOf i + 1).toNat)
  case atStart => exact ⟨0, (U : Int) - 1, Nat.zero_le _, by omega, rfl, h0, Kp.refl _ _⟩
  case round =>
    obtain ⟨k, z, hk, hz, rfl, hJs, hkp⟩ := hrel
    have hbx := (hkp.cell (i := 0) hk1).trans HBs.out
    clear hBs
    by_cases hlt : k < U
    · obtain ⟨j, rfl⟩ : ∃ j : Nat, z = j := ⟨z.toNat, by omega⟩
      have hjU : j < us.length := by rw [HU.out]; omega
      obtain ⟨h1, b, off, rfl, hkb, hcj⟩ := HC.out j hjU
      have hcx := (hkp.cell (i := off + j) hkb).trans hcj
      have hrl : (us.reverse.take k).length = k := by rw [List.length_take, List.length_reverse, HU.out]; omega
      have hnx : us.reverse.take (k + 1) = us.reverse.take k ++ [us[j]] := by
        rw [List.take_succ_eq_append_getElem (by rw [List.length_reverse, HU.out]; exact hlt), List.getElem_reverse]
        congr 2
        have : us.length - 1 - k = j := by rw [HU.out]; omega
        simp only [this]
      obtain ⟨x, hx⟩ : ∃ x, us[j] = x := ⟨_, rfl⟩
      rw [hx] at h1 hcx hnx
      obtain ⟨fn, tmps, assign, body, hy, hR⟩ := hY _ x wr hJs (by rw [hrl]; exact hlt)
      rw [h1] at hy
      have hjU2 : j < U := by omega
      have NX := Lib.hid hnx
      generalize ((x.2 : Nat) : Int) = D at hy hcx
      clear hcj hx hjU hnx hrl h1
      gi_wp2
      refine hR.mono ?_
      rintro e W3 (⟨rfl, hJ3, hk3⟩ | ⟨rfl, hJx3⟩)
      · gi_wp2
        go_roundw
        case rel => exact ⟨k + 1, (j : Int) - 1, by omega, by omega, rfl, by rw [NX.out]; exact hJ3, hkp.trans hk3⟩
        case measure => simp [intOf]
      · gi_wp2
        refine bodyPost_ret (results_none rfl _ _ _) rfl ?_
        exact ⟨⟨_, rfl⟩, .inr ⟨_, trivial, hJx3⟩⟩
    · obtain rfl : z = -1 := by omega
      gi_wp2
      go_end0
      exact ⟨⟨_, rfl⟩, .inl ⟨_, by rw [List.take_of_length_le (by rw [List.length_reverse, HU.out]; omega)], hJs⟩⟩
theorem bwd_is (a : Option Addr) (U c : Nat) (w : World) :
    Calls Tryd.prog 64 #[.slice a U c] w fun e w' => e = .returned (.func (.func 70) #[] #[.pointer (some ⟨w.heap.size, 0, none⟩)]) ∧ w.alloc (.cells #[.slice a U c] 22) = w' := by
  have hmf : ∀ (fn : Fn) (first cap : Array Value) (w : World), (Instr.makeFunc fn first cap).run Tryd.prog w = .ok (.func fn first cap) w := fun _ _ _ _ => rfl
  go_enter Tryd.func64, Tryd.ntmps64
  go_wp2
  go_ret
  exact ⟨rfl, rfl⟩
end Go.Proofs.YtoeojhabhnoojaaDoor.msk
