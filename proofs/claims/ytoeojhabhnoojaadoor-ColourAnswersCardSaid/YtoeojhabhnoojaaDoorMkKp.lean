/- What the laws of layer 6 and later ones hold of memory: slices that stay as they are while values are drawn. No law in this text. -/
import Derived.Test.YtoeojhabhnoojaaDoorMkP
import Derived.Test.YtoeojhabhnoojaaDoorMkInt
import Derived.Test.YtoeojhabhnoojaaDoorMkF
import Derived.Lib.LaidTab
namespace Go.Proofs.YtoeojhabhnoojaaDoor.msk
open Go.RowKit lex aggs kit net deck

/-- the tables that layer 6 reads -/
structure STabs (w : World) : Prop where
  cls : HasClasses w
  flg : Flg w
theorem STabs.below {w w' : World} (h : STabs w) (b : Below w.heap.size w w') : STabs w' := ⟨h.cls.below b, h.flg.below b⟩
theorem gFlg : Tryd.prog.globalNamed "permitoffice/mask.flags" = some 0 := by kernel_rfl
theorem Flg.of {w : World} {zs : List Int} (hz : zs = (List.range 4).map Go.Proofs.YtoeojhabhnoojaaDoor.msk.flg) (hc : Lib.TabIs Tryd.prog w "permitoffice/mask.flags" .i64 zs) : Flg w := by
  subst hz
  refine fun i hi => ?_
  have := hc.cell gFlg i (by simpa using hi)
  rw [this, List.getD_eq_getElem?_getD, List.getElem?_map, List.getElem?_range hi]; rfl
/-- a slice that can be read and lies apart from block bd -/
def Kept (W : World) (bd : Nat) (a : Option Addr) (N c : Nat) (xs : List Int) : Prop := LIn W a N c xs ∧ ∀ p, 0 < N → a = some p → p.block ≠ bd
theorem Kept.far {W W' : World} {bd : Nat} {a : Option Addr} {N c : Nat} {xs : List Int} (h : Kept W bd a N c xs) (g : W.grownBy W' (some bd)) : Kept W' bd a N c xs :=
  ⟨h.1.grown g (fun hp p hq e => h.2 p hp hq (by injection e)), h.2⟩
theorem Kept.below {W W' : World} {bd : Nat} {a : Option Addr} {N c : Nat} {xs : List Int} (h : Kept W bd a N c xs) (b : Below W.heap.size W W') : Kept W' bd a N c xs := ⟨h.1.below b, h.2⟩
theorem OwnI.kept {W : World} {base bd : Nat} {v : Value} {xs : List Int} (h : OwnI W base v xs) (hb : bd < base) : ∃ a c, v = .slice a xs.length c ∧ Kept W bd a xs.length c xs := by
  obtain ⟨a, c, e, l, hp⟩ := h.lin
  exact ⟨a, c, e, l, fun p _ hq => by have := hp p hq; omega⟩
theorem ints_b (a b : Option Addr) (N c M d : Nat) (xs ys : List Int) (r : Bool) (w : World) (h : LIn w a N c xs) (k : LIn w b M d ys) (hr : decide (xs = ys) = r) :
    Calls Tryd.prog 24 #[.slice a N c, .slice b M d] w fun e w' => e = .returned (.bool r) ∧ Below w.heap.size w w' :=
  (ints_is a b N c M d xs ys r w h k hr).mono fun e w' ⟨h1, n, h2⟩ => ⟨h1, by rw [h2]; exact below_drewN w n⟩
end Go.Proofs.YtoeojhabhnoojaaDoor.msk
