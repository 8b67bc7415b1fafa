/- What is kept while a law draws: networks that were read, cells, the deck. No walk in this text. -/
import Derived.Test.YtoeojhabhnoojaaDoorNetN
namespace Go.Proofs.YtoeojhabhnoojaaDoor.net
open Go.RowKit lex aggs kit deck
/-- a network that can be read, apart from block bd -/
def NF (W : World) (bd : Nat) (a b : Option Addr) (N c M d : Nat) (ns : List Nd) (ds : List Dv) : Prop := NetIn W a b N c M d ns ds ∧ (∀ p, a = some p → p.block ≠ bd) ∧ (∀ p, b = some p → p.block ≠ bd)
theorem keeps_gb {W W' : World} {bd : Nat} (h : W.grownBy W' (some bd)) : Keeps W.heap.size bd W W' := ⟨h.size, fun k hk hne => h.block k hk (fun e => hne (by injection e))⟩
theorem NF.keep {W W' : World} {bd : Nat} {a b : Option Addr} {N c M d : Nat} {ns : List Nd} {ds : List Dv} (h : NF W bd a b N c M d ns ds) (g : W.grownBy W' (some bd)) : NetIn W' a b N c M d ns ds :=
  h.1.keeps (keeps_gb g) (Nat.le_refl _) h.2.1 h.2.2
theorem NF.keep2 {W W' : World} {bd : Nat} {a b : Option Addr} {N c M d : Nat} {ns : List Nd} {ds : List Dv} (h : NF W bd a b N c M d ns ds) (g : W.grownBy W' (some bd)) : NF W' bd a b N c M d ns ds := ⟨h.keep g, h.2⟩
theorem gb_tr {W W1 W2 : World} {bd : Nat} (h : W.grownBy W1 (some bd)) (g : W1.grownBy W2 (some bd)) : W.grownBy W2 (some bd) := h.andThen g (fun _ hj => .inr hj)
theorem gb_be {W W1 W2 : World} {bd : Nat} (h : W.grownBy W1 (some bd)) (b : Below W1.heap.size W1 W2) : W.grownBy W2 (some bd) := gb_below h b
theorem gb_cell {W W1 : World} {bd g i : Nat} {v : Value} (h : W.cell? ⟨g, i, none⟩ = some v) (gb : W.grownBy W1 (some bd)) (hne : g ≠ bd) : W1.cell? ⟨g, i, none⟩ = some v := gb.cell h (by simp; exact hne)
section
variable {w0 WS X Y : World} {bd len cap g k : Nat} {a : Option Addr} {v0 v1 u0 u1 : Value}
theorem two_below (h : X.cell? ⟨g, 0, none⟩ = some v0 ∧ X.cell? ⟨g, 1, none⟩ = some v1 ∧ Game w0 X bd a len cap ∧ WS.grownBy X (some bd)) (hg : g ≠ bd) (b : Below X.heap.size X Y) :
    Y.cell? ⟨g, 0, none⟩ = some v0 ∧ Y.cell? ⟨g, 1, none⟩ = some v1 ∧ Game w0 Y bd a len cap ∧ WS.grownBy Y (some bd) := by
  have gb := gb_be (gb_refl X (some bd)) b
  exact ⟨gb_cell h.1 gb hg, gb_cell h.2.1 gb hg, h.2.2.1.by_below b, gb_tr h.2.2.2 gb⟩
theorem four_keep (h : X.cell? ⟨g, 0, none⟩ = some v0 ∧ X.cell? ⟨g, 1, none⟩ = some v1 ∧ X.cell? ⟨k, 0, none⟩ = some u0 ∧ X.cell? ⟨k, 1, none⟩ = some u1 ∧ Game w0 X bd a len cap ∧ WS.grownBy X (some bd)) (hg : g ≠ bd) (hk : k ≠ bd) (gm : Game w0 Y bd a len cap) (gb : X.grownBy Y (some bd)) :
    Y.cell? ⟨g, 0, none⟩ = some v0 ∧ Y.cell? ⟨g, 1, none⟩ = some v1 ∧ Y.cell? ⟨k, 0, none⟩ = some u0 ∧ Y.cell? ⟨k, 1, none⟩ = some u1 ∧ Game w0 Y bd a len cap ∧ WS.grownBy Y (some bd) :=
  ⟨gb_cell h.1 gb hg, gb_cell h.2.1 gb hg, gb_cell h.2.2.1 gb hk, gb_cell h.2.2.2.1 gb hk, gm, gb_tr h.2.2.2.2.2 gb⟩
theorem four_below (h : X.cell? ⟨g, 0, none⟩ = some v0 ∧ X.cell? ⟨g, 1, none⟩ = some v1 ∧ X.cell? ⟨k, 0, none⟩ = some u0 ∧ X.cell? ⟨k, 1, none⟩ = some u1 ∧ Game w0 X bd a len cap ∧ WS.grownBy X (some bd)) (hg : g ≠ bd) (hk : k ≠ bd) (b : Below X.heap.size X Y) :
    Y.cell? ⟨g, 0, none⟩ = some v0 ∧ Y.cell? ⟨g, 1, none⟩ = some v1 ∧ Y.cell? ⟨k, 0, none⟩ = some u0 ∧ Y.cell? ⟨k, 1, none⟩ = some u1 ∧ Game w0 Y bd a len cap ∧ WS.grownBy Y (some bd) :=
  four_keep h hg hk (h.2.2.2.2.1.by_below b) (gb_be (gb_refl X (some bd)) b)
theorem four_game (h : X.cell? ⟨g, 0, none⟩ = some v0 ∧ X.cell? ⟨g, 1, none⟩ = some v1 ∧ X.cell? ⟨k, 0, none⟩ = some u0 ∧ X.cell? ⟨k, 1, none⟩ = some u1 ∧ Game w0 X bd a len cap ∧ WS.grownBy X (some bd)) : Game w0 X bd a len cap ∧ WS.grownBy X (some bd) := h.2.2.2.2
theorem four_drew (h : X.cell? ⟨g, 0, none⟩ = some v0 ∧ X.cell? ⟨g, 1, none⟩ = some v1 ∧ X.cell? ⟨k, 0, none⟩ = some u0 ∧ X.cell? ⟨k, 1, none⟩ = some u1 ∧ Game w0 X bd a len cap ∧ WS.grownBy X (some bd)) :
    X.drew.cell? ⟨g, 0, none⟩ = some v0 ∧ X.drew.cell? ⟨g, 1, none⟩ = some v1 ∧ X.drew.cell? ⟨k, 0, none⟩ = some u0 ∧ X.drew.cell? ⟨k, 1, none⟩ = some u1 ∧ Game w0 X.drew bd a len cap ∧ WS.grownBy X.drew (some bd) :=
  ⟨h.1, h.2.1, h.2.2.1, h.2.2.2.1, h.2.2.2.2.1.drew, gb_drew h.2.2.2.2.2⟩
end
end Go.Proofs.YtoeojhabhnoojaaDoor.net
