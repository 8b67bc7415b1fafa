/- What the laws of layer 3 hold of memory: what stays, the network, the marks of the devices that may be used. No walk in this text. -/
import Derived.Test.YtoeojhabhnoojaaDoorNetL
import Derived.Deep.OwnRows
import Derived.Lib.LaidTab
namespace Go.Proofs.YtoeojhabhnoojaaDoor.net
open Go.RowKit lex aggs kit deck

theorem gClsP : Tryd.prog.globalNamed "permitoffice/lexeme.classes" = some 1 := by kernel_rfl
theorem HasClasses.of {w : World} {zs : List Int} (hz : zs = (List.range 128).map clsI) (hc : Lib.TabIs Tryd.prog w "permitoffice/lexeme.classes" .u8 zs) : HasClasses w := by
  subst hz
  refine fun i hi => ?_
  have := hc.cell gClsP i (by simpa using hi)
  rw [this, List.getD_eq_getElem?_getD, List.getElem?_map, List.getElem?_range hi]; rfl
/-- the blocks below H, but for bd, are as they were -/
def Keeps (H bd : Nat) (w w' : World) : Prop := w.heap.size ≤ w'.heap.size ∧ ∀ k, k < H → k ≠ bd → w'.heap[k]? = w.heap[k]?
theorem Keeps.refl (H bd : Nat) (w : World) : Keeps H bd w w := ⟨Nat.le_refl _, fun _ _ _ => rfl⟩
theorem Keeps.trans {H bd : Nat} {a b c : World} (h : Keeps H bd a b) (k : Keeps H bd b c) : Keeps H bd a c := ⟨Nat.le_trans h.1 k.1, fun i hi hne => (k.2 i hi hne).trans (h.2 i hi hne)⟩
theorem Keeps.grown {H bd : Nat} {w w1 w' : World} {row : Option Nat} (h : Keeps H bd w w1) (hg : w1.grownBy w' row) (hH : H ≤ w1.heap.size) (hr : ∀ k, row = some k → k = bd ∨ H ≤ k) : Keeps H bd w w' :=
  h.trans ⟨hg.size, fun k hk hne => hg.block k (by omega) (fun e => by rcases hr k e.symm with h | h <;> omega)⟩
theorem Keeps.below {H bd B : Nat} {w w1 w' : World} (h : Keeps H bd w w1) (hb : Below B w1 w') (hB : H ≤ B) : Keeps H bd w w' := h.trans ⟨hb.size, fun k hk _ => hb.block k (by omega)⟩
theorem Keeps.alloc {H bd : Nat} {w w1 : World} (h : Keeps H bd w w1) (hH : H ≤ w1.heap.size) (o : Obj) : Keeps H bd w (w1.alloc o) := h.below (below_box w1 o) hH
theorem Keeps.drew {H bd : Nat} {w w1 : World} (h : Keeps H bd w w1) : Keeps H bd w w1.drew := h
theorem NtAt.keeps {H bd g : Nat} {w w' : World} {x y : Value} (h : NtAt w g x y) (k : Keeps H bd w w') (hg : g < H) (hne : g ≠ bd) : NtAt w' g x y := by
  have e := k.2 g hg hne
  exact ⟨by rw [World.cell?_of_block (a := ⟨g, 0, none⟩) e]; exact h.1, by rw [World.cell?_of_block (a := ⟨g, 1, none⟩) e]; exact h.2.1, Nat.lt_of_lt_of_le h.2.2 k.1⟩
theorem RIn.keeps {α : Type} {enc : α → List Value} {n H bd : Nat} {w w' : World} {a : Option Addr} {xs : List α} (h : RIn enc n w a xs) (k : Keeps H bd w w') (hs : w.heap.size ≤ H) (hne : ∀ p, a = Option.some p → p.block ≠ bd) : RIn enc n w' a xs := by
  rcases h with h | ⟨b, off, h1, h2, h3⟩
  · exact .inl h
  · refine .inr ⟨b, off, h1, Nat.lt_of_lt_of_le h2 k.1, fun i u hu => ?_⟩
    have e := k.2 b (by omega) (hne _ h1)
    rw [World.cell?_of_block (a := ⟨b, off + i, none⟩) e]; exact h3 i u hu
theorem NetIn.keeps {H bd : Nat} {w w' : World} {a b : Option Addr} {N c M d : Nat} {ns : List Nd} {ds : List Dv} (h : NetIn w a b N c M d ns ds) (k : Keeps H bd w w') (hs : w.heap.size ≤ H) (h1 : ∀ p, a = some p → p.block ≠ bd) (h2 : ∀ p, b = some p → p.block ≠ bd) : NetIn w' a b N c M d ns ds :=
  { h with nin := h.nin.keeps k hs h1, din := h.din.keeps k hs h2 }
theorem good_fit {N : Nat} {ds : List Dv} (hN : N ≤ 32) (h : GoodD N ds) : ∀ x ∈ ds, Fits x := by
  intro x hx
  obtain ⟨i, hi, rfl⟩ := List.mem_iff_getElem.1 hx
  obtain ⟨g1, g2, g3, g4, g5⟩ := h i hi
  obtain ⟨p1, p2⟩ := itsB_parts g3
  refine ⟨by omega, by omega, by omega, by omega, ?_⟩
  rw [g1]; show 3 ≤ maxLen; decide
/-- the rows that were made are a network that can be read, apart from block bd -/
theorem rows_net {w : World} {base bd : Nat} {vn vd : Value} {ns : List Nd} {ds : List Dv} (hn : AggsAt 67 3 encNd w base vn ns) (hd : AggsAt 57 5 encDv w base vd ds) (hN : ns.length ≤ 32) (gn : GoodN ns) (gd : GoodD ns.length ds) (hb : bd < base) :
    ∃ a c b d, vn = .slice a ns.length c ∧ vd = .slice b ds.length d ∧ NetIn w a b ns.length c ds.length d ns ds ∧ (∀ p, a = some p → p.block ≠ bd) ∧ (∀ p, b = some p → p.block ≠ bd) := by
  have hsz : ∀ x ∈ ns, x.nm.size ≤ maxLen := by
    intro x hx
    obtain ⟨i, hi, rfl⟩ := List.mem_iff_getElem.1 hx
    rw [(gn i hi).1]; show 3 ≤ maxLen; decide
  have hf := good_fit hN gd
  obtain ⟨a, c, e1, r1, l1, l2, z1⟩ : ∃ a c, vn = .slice a ns.length c ∧ RIn encNd 3 w a ns ∧ ns.length ≤ c ∧ c ≤ maxLen ∧ (∀ p, a = some p → p.block ≠ bd) := by
    rcases hn.shape encNd_len with ⟨rfl, rfl⟩ | ⟨g, cap, rfl, q1, q2, q3, q4, q5, _⟩
    · exact ⟨none, 0, rfl, .inl ⟨rfl, rfl⟩, Nat.le_refl _, Nat.zero_le _, fun p hp => by cases hp⟩
    · exact ⟨_, _, rfl, .inr ⟨g, 0, rfl, q2, q5⟩, q3, q4, fun p hp => by cases hp; show g ≠ bd; omega⟩
  obtain ⟨b, d, e2, r2, l3, l4, z2⟩ : ∃ b d, vd = .slice b ds.length d ∧ RIn encDv 5 w b ds ∧ ds.length ≤ d ∧ d ≤ maxLen ∧ (∀ p, b = some p → p.block ≠ bd) := by
    rcases hd.shape encDv_len with ⟨rfl, rfl⟩ | ⟨g, cap, rfl, q1, q2, q3, q4, q5, _⟩
    · exact ⟨none, 0, rfl, .inl ⟨rfl, rfl⟩, Nat.le_refl _, Nat.zero_le _, fun p hp => by cases hp⟩
    · exact ⟨_, _, rfl, .inr ⟨g, 0, rfl, q2, q5⟩, q3, q4, fun p hp => by cases hp; show g ≠ bd; omega⟩
  exact ⟨a, c, b, d, e1, e2, ⟨rfl, rfl, r1, r2, hsz, hf, l1, l2, l3, l4⟩, z1, z2⟩

theorem two_keep {w0 WS X Y : World} {bd len cap gn : Nat} {a : Option Addr} {vn vd : Value} (h : X.cell? ⟨gn, 0, none⟩ = some vn ∧ X.cell? ⟨gn, 1, none⟩ = some vd ∧ Game w0 X bd a len cap ∧ WS.grownBy X (some bd)) (hne : gn ≠ bd) (gm : Game w0 Y bd a len cap) (gb : X.grownBy Y (some bd)) :
    Y.cell? ⟨gn, 0, none⟩ = some vn ∧ Y.cell? ⟨gn, 1, none⟩ = some vd ∧ Game w0 Y bd a len cap ∧ WS.grownBy Y (some bd) :=
  ⟨gb.cell h.1 (by simpa using hne), gb.cell h.2.1 (by simpa using hne), gm, h.2.2.2.trans gb⟩
theorem two_drew {w0 WS X : World} {bd len cap gn : Nat} {a : Option Addr} {vn vd : Value} (h : X.cell? ⟨gn, 0, none⟩ = some vn ∧ X.cell? ⟨gn, 1, none⟩ = some vd ∧ Game w0 X bd a len cap ∧ WS.grownBy X (some bd)) :
    X.drew.cell? ⟨gn, 0, none⟩ = some vn ∧ X.drew.cell? ⟨gn, 1, none⟩ = some vd ∧ Game w0 X.drew bd a len cap ∧ WS.grownBy X.drew (some bd) :=
  ⟨h.1, h.2.1, h.2.2.1.drew, gb_drew h.2.2.2⟩
theorem two_game {w0 WS X : World} {bd len cap gn : Nat} {a : Option Addr} {vn vd : Value} (h : X.cell? ⟨gn, 0, none⟩ = some vn ∧ X.cell? ⟨gn, 1, none⟩ = some vd ∧ Game w0 X bd a len cap ∧ WS.grownBy X (some bd)) : Game w0 X bd a len cap ∧ WS.grownBy X (some bd) := h.2.2
end Go.Proofs.YtoeojhabhnoojaaDoor.net
