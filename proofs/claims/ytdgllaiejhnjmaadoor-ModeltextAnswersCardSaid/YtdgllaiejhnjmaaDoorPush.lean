/- append of one element to a slice of structs of the call's own, as a step of a region that draws its order. No walk in this text. -/
import Derived.Test.YtdgllaiejhnjmaaDoorAggs
import Derived.Laws.AppendOwn
namespace Go.Proofs.YtdgllaiejhnjmaaDoor.aggs
open Go.RowKit
variable {α : Type}

theorem cells_blk {enc : α → List Value} {w : World} {b : Nat} {C : Array Value} {T : Nat} {y : α} (h : w.heap[b]? = some (.cells C T (0, 0))) (hC : C.toList = enc y) : ∀ j u, (enc y)[j]? = some u → w.cell? ((⟨b, 0, none⟩ : Addr).add j) = some u := by
  intro j u hu
  rw [← hC] at hu
  rw [Go.WideShapes.add_plain, Nat.zero_add]
  have h2 : C[j]? = some u := by simpa using hu
  simp [World.cell?, h, h2]
/-- one element is appended: what follows is asked of every slice and world that append may leave -/
theorem step_push {P : Program} {w : World} {ops : Array Oper} {o : Oper} {a : Act} {K : Act → World → Prop} {Q : Exit → Act → World → Prop} {E : Prop} {enc : α → List Value} {k : Nat} {T : TypeId} (hgd : o.guard = none) (s x : Operand) (t : TypeId)
    (ho : o.op = .call { callee := .builtin .append, args := #[s, x], argTypes := #[t, t] })
    (base : Nat) (i : TypeInfo) (z : Value) (bytes : Nat) (ht : P.underlying t = some (.slice T)) (hi : P.info? T = some i) (hz : i.zero = some z)
    (hsize : i.size = k) (hby : i.bytes = bytes) (hzs : z.cells.size = k) (hsz : 0 < k) (hk : ∀ y, (enc y).length = k) (h1 : ∀ y, ∀ u ∈ enc y, u.oneCell' = true)
    (v : Value) (xs : List α) (N : Nat) (hN : xs.length = N) (hs : a.eval s = v) (own : AggsAt T k enc w base v xs)
    (b c : Nat) (y : α) (hx : a.eval x = .slice (some ⟨b, 0, none⟩) 1 c) (C : Array Value) (T2 : Nat) (hb : w.heap[b]? = some (.cells C T2 (0, 0))) (hC : C.toList = enc y)
    (h63 : N + 1 ≤ maxLen) (hbytes : (N + 1) * bytes ≤ 140737488355328) (hbase : base ≤ w.heap.size)
    (h : ∀ a9 c9 w', AggsAt T k enc w' base (.slice a9 (N + 1) c9) (xs ++ [y]) → w.grownBy w' v.ownBlock → K (a.put o.dst (.slice a9 (N + 1) c9)) w') :
    if Region.wanted o (yielded ops a.tmps) = true then Oper.wp P o a w K Q else E := by
  have hw : Region.wanted o (yielded ops a.tmps) = true := by simp [Region.wanted, hgd]
  rw [if_pos hw]
  subst hN
  refine wp_append_own w s x t ho base T i z k bytes ht hi hz hsize hby hzs hsz v xs.length (flat enc xs) hs own ⟨b, 0, none⟩ 1 c (enc y) hx (by rw [hk]; omega) (cells_blk hb hC) (h1 y) h63 hbytes hbase ?_
  intro v' w' hown' hg _
  have p := AggsAt.push hown'
  obtain ⟨a9, c9, e, -⟩ := AggsAt.length p hk
  rw [List.length_append] at e
  rw [e] at p ⊢
  exact h a9 c9 w' p hg
end Go.Proofs.YtdgllaiejhnjmaaDoor.aggs
