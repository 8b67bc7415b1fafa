/- What the laws of layer 3 hold of memory: what stays, the network, the marks of the devices that may be used. No walk in this text. -/
import Derived.Test.YtleggojgcaefdaaDoorNetL
import Derived.Deep.OwnRows
import Derived.Lib.LaidTab
namespace Go.Proofs.YtleggojgcaefdaaDoor.net
open Go.RowKit lex aggs kit deck

theorem gClsP : Tryd.prog.globalNamed "permitoffice/lexeme.classes" = some 0 := by kernel_rfl
theorem HasClasses.of {w : World} {zs : List Int} (hz : zs = (List.range 128).map clsI) (hc : Lib.TabIs Tryd.prog w "permitoffice/lexeme.classes" .u8 zs) : HasClasses w := by
  subst hz
  refine fun i hi => ?_
  have := hc.cell gClsP i (by simpa using hi)
  rw [this, List.getD_eq_getElem?_getD, List.getElem?_map, List.getElem?_range hi]; rfl
/-- the blocks below H, but for bd, are as they were -/
def Keeps (H bd : Nat) (w w' : World) : Prop := w.heap.size ≤ w'.heap.size ∧ ∀ k, k < H → k ≠ bd → w'.heap[k]? = w.heap[k]?
theorem Keeps.refl (H bd : Nat) (w : World) : Keeps H bd w w := ⟨Nat.le_refl _, fun _ _ _ => rfl⟩
theorem Keeps.trans {H bd : Nat} {a b c : World} (h : Keeps H bd a b) (k : Keeps H bd b c) : Keeps H bd a c := ⟨Nat.le_trans h.1 k.1, fun i hi hne => (k.2 i hi hne).trans (h.2 i hi hne)⟩
theorem Keeps.grown {H bd : Nat} {w w1 w' : World} {row : Option Nat} (h : Keeps H bd w w1) (hg : w1.grownBy w' row) (hH : H ≤ w1.heap.size) (hr : ∀ k, row = some k → k = bd ∨ H ≤ k) : Keeps H bd w w' :=
  h.trans ⟨hg.size, fun k hk hne => hg.block k (by omega) (fun e => by rcases hr k e.symm with h | h <;> omega)⟩
theorem Keeps.below {H bd B : Nat} {w w1 w' : World} (h : Keeps H bd w w1) (hb : Below B w1 w') (hB : H ≤ B) : Keeps H bd w w' := h.trans ⟨hb.size, fun k hk _ => hb.block k (by omega)⟩
theorem Keeps.alloc {H bd : Nat} {w w1 : World} (h : Keeps H bd w w1) (hH : H ≤ w1.heap.size) (o : Obj) : Keeps H bd w (w1.alloc o) := h.below (below_box w1 o) hH
theorem Keeps.drew {H bd : Nat} {w w1 : World} (h : Keeps H bd w w1) : Keeps H bd w w1.drew := h
theorem NtAt.keeps {H bd g : Nat} {w w' : World} {x y : Value} (h : NtAt w g x y) (k : Keeps H bd w w') (hg : g < H) (hne : g ≠ bd) : NtAt w' g x y := by
  have e := k.2 g hg hne
  exact ⟨by rw [World.cell?_of_block (a := ⟨g, 0, none⟩) e]; exact h.1, by rw [World.cell?_of_block (a := ⟨g, 1, none⟩) e]; exact h.2.1, Nat.lt_of_lt_of_le h.2.2 k.1⟩
theorem RIn.keeps {α : Type} {enc : α → List Value} {n H bd : Nat} {w w' : World} {a : Option Addr} {xs : List α} (h : RIn enc n w a xs) (k : Keeps H bd w w') (hs : w.heap.size ≤ H) (hne : ∀ p, a = Option.some p → p.block ≠ bd) : RIn enc n w' a xs := by
  rcases h with h | ⟨b, off, h1, h2, h3⟩
  · exact .inl h
  · refine .inr ⟨b, off, h1, Nat.lt_of_lt_of_le h2 k.1, fun i u hu => ?_⟩
    have e := k.2 b (by omega) (hne _ h1)
    rw [World.cell?_of_block (a := ⟨b, off + i, none⟩) e]; exact h3 i u hu
theorem NetIn.keeps {H bd : Nat} {w w' : World} {a b : Option Addr} {N c M d : Nat} {ns : List Nd} {ds : List Dv} (h : NetIn w a b N c M d ns ds) (k : Keeps H bd w w') (hs : w.heap.size ≤ H) (h1 : ∀ p, a = some p → p.block ≠ bd) (h2 : ∀ p, b = some p → p.block ≠ bd) : NetIn w' a b N c M d ns ds :=
  { h with nin := h.nin.keeps k hs h1, din := h.din.keeps k hs h2 }
theorem good_fit {N : Nat} {ds : List Dv} (hN : N ≤ 32) (h : GoodD N ds) : ∀ x ∈ ds, Fits x := by
  intro x hx
  obtain ⟨i, hi, rfl⟩ := List.mem_iff_getElem.1 hx
  obtain ⟨g1, g2, g3, g4, g5⟩ := h i hi
  obtain ⟨p1, p2⟩ := itsB_parts g3
  refine ⟨by omega, by omega, by omega, by omega, ?_⟩
  rw [g1]; show 3 ≤ maxLen; decide
/-- the rows that were made are a network that can be read, apart from block bd -/
theorem rows_net {w : World} {base bd : Nat} {vn vd : Value} {ns : List Nd} {ds : List Dv} (hn : AggsAt 56 3 encNd w base vn ns) (hd : AggsAt 54 5 encDv w base vd ds) (hN : ns.length ≤ 32) (gn : GoodN ns) (gd : GoodD ns.length ds) (hb : bd < base) :
    ∃ a c b d, vn = .slice a ns.length c ∧ vd = .slice b ds.length d ∧ NetIn w a b ns.length c ds.length d ns ds ∧ (∀ p, a = some p → p.block ≠ bd) ∧ (∀ p, b = some p → p.block ≠ bd) := by
  have hsz : ∀ x ∈ ns, x.nm.size ≤ maxLen := by
    intro x hx
    obtain ⟨i, hi, rfl⟩ := List.mem_iff_getElem.1 hx
    rw [(gn i hi).1]; show 3 ≤ maxLen; decide
  have hf := good_fit hN gd
  obtain ⟨a, c, e1, r1, l1, l2, z1⟩ : ∃ a c, vn = .slice a ns.length c ∧ RIn encNd 3 w a ns ∧ ns.length ≤ c ∧ c ≤ maxLen ∧ (∀ p, a = some p → p.block ≠ bd) := by
    rcases hn.shape encNd_len with ⟨rfl, rfl⟩ | ⟨g, cap, rfl, q1, q2, q3, q4, q5, _⟩
    · exact ⟨none, 0, rfl, .inl ⟨rfl, rfl⟩, Nat.le_refl _, Nat.zero_le _, fun p hp => by cases hp⟩
    · exact ⟨_, _, rfl, .inr ⟨g, 0, rfl, q2, q5⟩, q3, q4, fun p hp => by cases hp; show g ≠ bd; omega⟩
  obtain ⟨b, d, e2, r2, l3, l4, z2⟩ : ∃ b d, vd = .slice b ds.length d ∧ RIn encDv 5 w b ds ∧ ds.length ≤ d ∧ d ≤ maxLen ∧ (∀ p, b = some p → p.block ≠ bd) := by
    rcases hd.shape encDv_len with ⟨rfl, rfl⟩ | ⟨g, cap, rfl, q1, q2, q3, q4, q5, _⟩
    · exact ⟨none, 0, rfl, .inl ⟨rfl, rfl⟩, Nat.le_refl _, Nat.zero_le _, fun p hp => by cases hp⟩
    · exact ⟨_, _, rfl, .inr ⟨g, 0, rfl, q2, q5⟩, q3, q4, fun p hp => by cases hp; show g ≠ bd; omega⟩
  exact ⟨a, c, b, d, e1, e2, ⟨rfl, rfl, r1, r2, hsz, hf, l1, l2, l3, l4⟩, z1, z2⟩

/-- a row of marks, one for each device -/
def Flags (w : World) (b M : Nat) (f : Nat → Bool) : Prop := ∃ A T, w.heap[b]? = some (.cells A T (0, 0)) ∧ A.size = M ∧ ∀ t, t < M → A[t]? = some (.bool (f t))
theorem Flags.get {w : World} {b M : Nat} {f : Nat → Bool} (h : Flags w b M f) {t : Nat} (ht : t < M) : w.cell? ⟨b, t, none⟩ = some (.bool (f t)) ∧ w.frozen? ⟨b, t, none⟩ = false := by
  obtain ⟨A, T, h1, h2, h3⟩ := h
  have := h3 t ht
  exact ⟨by simp [World.cell?, h1, this], by simp [World.frozen?, h1]⟩
theorem Flags.lt {w : World} {b M : Nat} {f : Nat → Bool} (h : Flags w b M f) : b < w.heap.size := by obtain ⟨A, T, h1, _⟩ := h; exact lt_of_block h1
theorem Flags.other {w w' : World} {b M : Nat} {f : Nat → Bool} {row : Option Nat} (h : Flags w b M f) (hg : w.grownBy w' row) (hne : some b ≠ row) : Flags w' b M f := by
  have hl := h.lt
  obtain ⟨A, T, h1, h2⟩ := h
  exact ⟨A, T, by rw [hg.block b hl hne]; exact h1, h2⟩
theorem Flags.below {w w' : World} {b M : Nat} {f : Nat → Bool} (h : Flags w b M f) (hb : Below w.heap.size w w') : Flags w' b M f := by
  have hl := h.lt
  obtain ⟨A, T, h1, h2⟩ := h
  exact ⟨A, T, by rw [hb.block b hl]; exact h1, h2⟩
theorem Flags.set {w : World} {b M : Nat} {f : Nat → Bool} (h : Flags w b M f) (t : Nat) (ht : t < M) (x : Bool) : Flags (w.setCell ⟨b, t, none⟩ (.bool x)) b M (upd f t x) := by
  obtain ⟨A, T, h1, h2, h3⟩ := h
  refine ⟨A.set! t (.bool x), T, set_at _ h1, by simpa using h2, fun i hi => ?_⟩
  rw [Array.set!_eq_setIfInBounds, Array.getElem?_setIfInBounds]
  by_cases e : t = i
  · subst e; simp [h2, ht, upd_eq]
  · rw [if_neg e, h3 i hi, upd_ne f x (fun e' => e e'.symm)]
theorem made_size (M : Nat) : (madeCells #[.bool false] M).size = M ∧ ∀ t, t < M → (madeCells #[.bool false] M)[t]? = some (.bool false) := by
  unfold madeCells
  refine ⟨by simp, fun t ht => by simp [ht, Nat.mod_one]⟩
theorem Flags.new (w : World) (M T : Nat) : Flags (w.alloc (.cells (madeCells #[.bool false] M) T)) w.heap.size M (fun _ => false) :=
  ⟨_, _, heap_alloc_new w _, (made_size M).1, (made_size M).2⟩
def usL (M : Nat) (f : Nat → Bool) : List Bool := (List.range M).map f
theorem usL_len (M : Nat) (f : Nat → Bool) : (usL M f).length = M := by simp [usL]
theorem usL_get {M : Nat} {f : Nat → Bool} {i : Nat} (h : i < M) : (usL M f).getD i false = f i := by
  simp [usL, List.getD_eq_getElem?_getD, h]
theorem Flags.rin {w : World} {b M : Nat} {f : Nat → Bool} (h : Flags w b M f) : RIn encB 1 w (some ⟨b, 0, none⟩) (usL M f) := by
  refine .inr ⟨b, 0, rfl, h.lt, fun i u hu => ?_⟩
  have hi : i < M := by
    have := (List.getElem?_eq_some_iff.1 hu).1
    rw [flat_length encB_len, usL_len] at this; omega
  have e := flat_get encB_len (usL M f) i (by rw [usL_len]; exact hi) 0 (by decide)
  rw [Nat.mul_one, Nat.add_zero, hu] at e
  have e2 : u = .bool (f i) := by
    have := e
    simp [encB, usL] at this
    exact this
  rw [e2, Nat.zero_add]; exact (h.get hi).1
theorem make_flags (M : Nat) (hM : M ≤ 64) (W : World) : (Instr.makeSlice 27 (.int .i64 (M : Int)) (.int .i64 (M : Int))).run Tryd.prog W = .ok (.slice (some ⟨W.heap.size, 0, none⟩) M M) (W.alloc (.cells (madeCells #[.bool false] M) 4)) := by
  exact run_make_row' 27 4 (.bool false) 1 Tryd.underlying27 (by kernel_rfl) rfl .i64 .i64 M (by omega) (by omega) W
/-! ### a region with two draws -/
theorem two_keep {w0 WS X Y : World} {bd len cap gn : Nat} {a : Option Addr} {vn vd : Value} (h : X.cell? ⟨gn, 0, none⟩ = some vn ∧ X.cell? ⟨gn, 1, none⟩ = some vd ∧ Game w0 X bd a len cap ∧ WS.grownBy X (some bd)) (hne : gn ≠ bd) (gm : Game w0 Y bd a len cap) (gb : X.grownBy Y (some bd)) :
    Y.cell? ⟨gn, 0, none⟩ = some vn ∧ Y.cell? ⟨gn, 1, none⟩ = some vd ∧ Game w0 Y bd a len cap ∧ WS.grownBy Y (some bd) :=
  ⟨gb.cell h.1 (by simpa using hne), gb.cell h.2.1 (by simpa using hne), gm, h.2.2.2.trans gb⟩
theorem two_drew {w0 WS X : World} {bd len cap gn : Nat} {a : Option Addr} {vn vd : Value} (h : X.cell? ⟨gn, 0, none⟩ = some vn ∧ X.cell? ⟨gn, 1, none⟩ = some vd ∧ Game w0 X bd a len cap ∧ WS.grownBy X (some bd)) :
    X.drew.cell? ⟨gn, 0, none⟩ = some vn ∧ X.drew.cell? ⟨gn, 1, none⟩ = some vd ∧ Game w0 X.drew bd a len cap ∧ WS.grownBy X.drew (some bd) :=
  ⟨h.1, h.2.1, h.2.2.1.drew, gb_drew h.2.2.2⟩
theorem two_game {w0 WS X : World} {bd len cap gn : Nat} {a : Option Addr} {vn vd : Value} (h : X.cell? ⟨gn, 0, none⟩ = some vn ∧ X.cell? ⟨gn, 1, none⟩ = some vd ∧ Game w0 X bd a len cap ∧ WS.grownBy X (some bd)) : Game w0 X bd a len cap ∧ WS.grownBy X (some bd) := h.2.2
end Go.Proofs.YtleggojgcaefdaaDoor.net
