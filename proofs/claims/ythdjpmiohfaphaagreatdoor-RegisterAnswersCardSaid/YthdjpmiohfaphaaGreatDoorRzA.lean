/- For every list of numbers, register, person, text and numbers RegisterAnswers returns true: the program's functions say what the reference says. Condition: the tables hold what their texts lay (the card ties that). -/
import Derived.Test.YthdjpmiohfaphaaGreatDoorPgW
import Derived.Test.YthdjpmiohfaphaaGreatDoorRbX
import Derived.Test.YthdjpmiohfaphaaGreatDoorRgE
import Derived.Test.YthdjpmiohfaphaaGreatDoorRgH
import Derived.Test.YthdjpmiohfaphaaGreatDoorPgH
import Derived.Test.YthdjpmiohfaphaaGreatDoorPgD
import Derived.Test.YthdjpmiohfaphaaGreatDoorRzK
import Derived.Deep.DeepCutAuto
import Derived.StillTailTactics
import Derived.Deep.RegionHeld3
namespace Go.Proofs.YthdjpmiohfaphaaGreatDoor.reg
open Go.RowKit lex aggs kit net deck strs cal

/-- append([]api.Person(nil), r.People...) -/
theorem wpList_append_reg {ops : Array Oper} {rest : List Oper} {o : Oper} {act : Act} {Q : Exit → Act → World → Prop} {w : World} {a : Option Addr} {N c : Nat} {ps : List Pn} (hgd : o.guard = none) (x : Operand)
    (ho : o.op = .call { callee := .builtin .append, args := #[.const (.slice none 0 0), x], argTypes := #[23, 23] }) (hx : act.eval x = .slice a N c) (h : RegIn w a N c ps) (hN : N ≤ 1000)
    (hK : ∀ a' c' w', AggsAt 27 5 encPn w' w.heap.size (.slice a' N c') ps → RegIn w' a' N c' ps → w.grownBy w' none → wpList Tryz.prog ops Q rest (act.put o.dst (.slice a' N c')) w') : wpList Tryz.prog ops Q (o :: rest) act w := by
  obtain ⟨i0, hi, hz0, hz1, hz2⟩ := info_parts infoPn
  have hK2 : ∀ v' w', w'.ownsRow w.heap.size 27 5 v' N (flat encPn ps) → w.grownBy w' none → wpList Tryz.prog ops Q rest (act.put o.dst v') w' := fun v' w' ho hg => by
    have ha : AggsAt 27 5 encPn w' w.heap.size v' ps := by
      unfold AggsAt; rw [h.len]; exact ho
    obtain ⟨a', c', rfl, hr⟩ := reg_of ha h.fit
    rw [h.len] at hr ha ⊢
    exact hK a' c' w' ha hr hg
  cases a with
  | none =>
    obtain rfl : c = 0 := h.nil rfl
    obtain rfl : N = 0 := by have := h.ncap; omega
    have : ps = [] := List.eq_nil_of_length_eq_zero h.len
    subst this
    refine wpList_append_own_none hgd (.const (.slice none 0 0)) x 23 ho w.heap.size 27 i0 5 Tryz.underlying23 hi (.slice none 0 0) 0 [] rfl (World.ownsRow_nil _ _ _ _) hx ?_
    exact hK2 _ _ (World.ownsRow_nil _ _ _ _) (gb_refl w none)
  | some ad =>
    rcases h.rin with h1 | ⟨g, off, e, hg, hc⟩
    · cases h1.1
    · obtain rfl : ad = ⟨g, off, none⟩ := by injection e
      refine wpList_append_own _ hgd (.const (.slice none 0 0)) x 23 ho w.heap.size 27 i0 _ 5 48 Tryz.underlying23 hi hz0 hz1 hz2 rfl (by decide) (.slice none 0 0) 0 [] rfl (World.ownsRow_nil _ _ _ _) ⟨g, off, none⟩ N c (flat encPn ps) hx ?q1 ?q2 ?q3 ?q4 ?q5 ?q6 ?_
      case q1 => rw [flat_length encPn_len, h.len]
      case q2 => exact cells_news hc
      case q3 => exact flat_oneCell encPn_one _
      case q4 => unfold maxLen; omega
      case q5 => omega
      case q6 => exact Nat.le_refl _
      intro v' w' ho' hg' _
      rw [Nat.zero_add, List.nil_append] at ho'
      exact hK2 v' w' ho' hg'
theorem RegIn.apart {W W' : World} {a : Option Addr} {N c b : Nat} {ps : List Pn} (h : RegIn W a N c ps) (hne : ∀ ad, a = some ad → ad.block ≠ b) (hg : W.grownBy W' (some b)) : RegIn W' a N c ps := by
  refine { h with rin := ?_ }
  rcases h.rin with h1 | ⟨g, o, e, hl, hc⟩
  · exact .inl h1
  · refine .inr ⟨g, o, e, Nat.lt_of_lt_of_le hl hg.size, fun i u hu => ?_⟩
    exact (World.cell?_of_block (a := ⟨g, o + i, none⟩) (hg.block g hl (by have := hne _ e; simpa using this))).trans (hc i u hu)
/-- while the odd register is made -/
structure OdS (W1 W : World) (la : Option Addr) (len cap bd rb ob base : Nat) (a : Option Addr) (N c : Nat) (ps : List Pn) (a2 : Option Addr) (c2 : Nat) (qs : List Pn) : Prop where
  game : Game W1 W bd la len cap
  one : W.heap[rb]? = some (.cells #[.slice a N c] 25 (0, 0))
  reg : RegIn W a N c ps
  odd : W.heap[ob]? = some (.cells #[.slice a2 N c2] 25 (0, 0))
  own : AggsAt 27 5 encPn W base (.slice a2 N c2) qs
  fit : ∀ x ∈ qs, x.nm.size ≤ maxLen
  sk : SkI qs
  n : qs.length = N
  rbd : rb ≠ bd
  obd : ob ≠ bd
  bd : bd < base
  far : ∀ ad, a = some ad → ad.block < base
section
variable {W1 W W' : World} {la : Option Addr} {len cap bd rb ob base : Nat} {a : Option Addr} {N c : Nat} {ps : List Pn} {a2 : Option Addr} {c2 : Nat} {qs : List Pn}
theorem OdS.draw (h : OdS W1 W la len cap bd rb ob base a N c ps a2 c2 qs) (g : Game W1 W' bd la len cap) (gb : W.grownBy W' (some bd)) : OdS W1 W' la len cap bd rb ob base a N c ps a2 c2 qs :=
  { h with
    game := g
    one := gb.block_at h.one (lt_of_block h.one) (by simpa using h.rbd)
    reg := h.reg.far h.game.deck gb
    odd := gb.block_at h.odd (lt_of_block h.odd) (by simpa using h.obd)
    own := h.own.grown gb (fun k hk => by injection hk with hk; rw [← hk]; exact h.bd) }
theorem OdS.row (h : OdS W1 W la len cap bd rb ob base a N c ps a2 c2 qs) (hN : 0 < N) : ∃ g, a2 = some ⟨g, 0, none⟩ ∧ base ≤ g ∧ ∀ j (hj : j < qs.length), (∀ f u, (encPn qs[j])[f]? = some u → W.cell? ⟨g, j * 5 + f, none⟩ = some u ∧ W.frozen? ⟨g, j * 5 + f, none⟩ = false) := by
  rcases h.own.shape encPn_len with ⟨_, e⟩ | ⟨g, cap, e, hb, hg, h1, h2, hc, hf⟩
  · rw [← h.n, e] at hN; cases hN
  · injection e with e1 e2 e3
    refine ⟨g, e1, hb, fun j hj f u hu => ⟨?_, hf _⟩⟩
    have hl : f < 5 := by have := (List.getElem?_eq_some_iff.1 hu).1; rwa [encPn_len] at this
    have := hc.get encPn_len j hj f hl u hu
    rwa [Nat.zero_add] at this
theorem OdS.set {g : Nat} (h : OdS W1 W la len cap bd rb ob base a N c ps (some ⟨g, 0, none⟩) c2 qs) (j : Nat) (hj : j < qs.length) (f : Nat) (hf : f < 5) (u : Value) (q : Pn) (he : encPn q = (encPn qs[j]).set f u) (hz : q.nm.size ≤ maxLen) (hk : I64 q.sk) :
    OdS W1 (W.setCell ⟨g, j * 5 + f, none⟩ u) la len cap bd rb ob base a N c ps (some ⟨g, 0, none⟩) c2 (qs.set j q) := by
  obtain ⟨h1, h2⟩ := AggsAt.set h.n h.own encPn_len j hj f hf q u he
  have hgl := World.ownsRow.lt h.own g rfl
  have hbase := hgl.1
  have hT : ∀ b (C : Array Value), W.heap[b]? = some (.cells C 25 (0, 0)) → b ≠ g := fun b C hb e => by
    subst e
    rcases h.own.2 with ⟨h3, _⟩ | ⟨g', c', cur', e3, _, hh, _⟩
    · cases h3
    · injection e3 with e4; injection e4 with e4; injection e4 with e4
      rw [← e4] at hh
      rw [hh] at hb
      injection hb with hb
      injection hb with _ hb _
      exact absurd hb (by decide)
  have hb := h.bd
  exact {
    game := h.game.grown h2 (fun e => by injection e with e; omega) (fun k hk => by injection hk with hk; have := h.game.mine; omega)
    one := by rw [Below.heap_setCell _ _ _ _ (hT rb _ h.one)]; exact h.one
    reg := h.reg.apart (fun ad e e2 => by have := h.far ad e; omega) h2
    odd := by rw [Below.heap_setCell _ _ _ _ (hT ob _ h.odd)]; exact h.odd
    own := h1
    fit := fun x hx => by
      rcases List.mem_or_eq_of_mem_set hx with hx | rfl
      · exact h.fit x hx
      · exact hz
    sk := fun x hx => by
      rcases List.mem_or_eq_of_mem_set hx with hx | rfl
      · exact h.sk x hx
      · exact hk
    n := by rw [List.length_set]; exact h.n
    rbd := h.rbd
    obd := h.obd
    bd := h.bd
    far := h.far }
end
/-- while one of the three registers is asked -/
structure RdS (V W1 W : World) (la : Option Addr) (len cap bd yb : Nat) (b : Option Addr) (M d : Nat) (us : List Pn) : Prop where
  game : Game W1 W bd la len cap
  gr : V.grownBy W (some bd)
  box : W.heap[yb]? = some (.cells #[.slice b M d] 25 (0, 0))
  reg : RegIn W b M d us
  ybd : yb ≠ bd
section
variable {V W1 W W' : World} {la : Option Addr} {len cap bd yb : Nat} {b : Option Addr} {M d : Nat} {us : List Pn}
theorem RdS.draw (h : RdS V W1 W la len cap bd yb b M d us) (g : Game W1 W' bd la len cap) (gb : W.grownBy W' (some bd)) : RdS V W1 W' la len cap bd yb b M d us where
  game := g
  gr := gb_tr h.gr gb
  box := gb.block_at h.box (lt_of_block h.box) (by simpa using h.ybd)
  reg := h.reg.far h.game.deck gb
  ybd := h.ybd
theorem RdS.step (h : RdS V W1 W la len cap bd yb b M d us) (hb : Below W.heap.size W W') : RdS V W1 W' la len cap bd yb b M d us :=
  h.draw (h.game.by_below hb) (gb_of_below hb _)
theorem RdS.cell (h : RdS V W1 W la len cap bd yb b M d us) : W.cell? ⟨yb, 0, none⟩ = some (.slice b M d) := (cell_atR h.box 0).1
end
def DC2 (b : Option Addr) (M d : Nat) (E : Int) : Nat → Value → World → Prop
  | 0, v, _ => v = .agg #[.slice b M d]
  | 1, v, _ => v = .int .i64 E
  | 2, v, _ => v = .agg #[.slice b M d]
  | 3, v, _ => v = .int .i64 E
  | 4, v, _ => v = .bool false
  | _, _, _ => True
theorem DC2.kept {b : Option Addr} {M d : Nat} {E : Int} {W W' : World} : ∀ j v, DC2 b M d E j v W → DC2 b M d E j v W'
  | 0, _, h | 1, _, h | 2, _, h | 3, _, h | 4, _, h | _ + 5, _, h => h
def DG7 (b : Option Addr) (M d : Nat) (x : ByteArray) (k t : Int) (e1 F : Int) (C : Bool) (v1 v2 : Value) : Nat → Value → World → Prop
  | 0, v, _ => v = .int .i64 e1
  | 1, v, _ => v = .int .i64 e1
  | 2, v, _ => v = .bool false
  | 3, v, _ => v = .bool false
  | 4, v, _ => v = .agg #[v1]
  | 5, v, _ => v = .agg #[v2]
  | 6, v, _ => v = .bool true
  | 7, v, _ => v = .bool false
  | 8, v, _ => v = .bool false
  | 9, v, _ => v = .bool false
  | 10, v, _ => v = .agg #[.slice b M d]
  | 11, v, _ => v = .string x
  | 12, v, _ => v = .int .i64 F
  | 13, v, _ => v = .agg #[.slice b M d]
  | 14, v, _ => v = .string x
  | 15, v, _ => v = .int .i64 F
  | 16, v, _ => v = .bool false
  | 17, v, _ => v = .bool false
  | 18, v, _ => v = .bool false
  | 19, v, _ => v = .agg #[.slice b M d]
  | 20, v, _ => v = .string x
  | 21, v, _ => v = .int .i64 k
  | 22, v, _ => v = .int .i64 t
  | 23, v, _ => v = .bool C
  | 24, v, _ => v = .agg #[.slice b M d]
  | 25, v, _ => v = .string x
  | 26, v, _ => v = .int .i64 k
  | 27, v, _ => v = .int .i64 t
  | 28, v, _ => v = .bool C
  | 29, v, _ => v = .bool false
  | 30, v, _ => v = .bool false
  | _, _, _ => True
theorem DG7.kept {b : Option Addr} {M d : Nat} {x : ByteArray} {k t : Int} {e1 F : Int} {C : Bool} {v1 v2 : Value} {W W' : World} : ∀ j v, DG7 b M d x k t e1 F C v1 v2 j v W → DG7 b M d x k t e1 F C v1 v2 j v W'
  | 0, _, h | 1, _, h | 2, _, h | 3, _, h | 4, _, h | 5, _, h | 6, _, h | 7, _, h | 8, _, h | 9, _, h | 10, _, h | 11, _, h | 12, _, h | 13, _, h | 14, _, h | 15, _, h | 16, _, h | 17, _, h | 18, _, h | 19, _, h | 20, _, h | 21, _, h | 22, _, h | 23, _, h | 24, _, h | 25, _, h | 26, _, h | 27, _, h | 28, _, h | 29, _, h | 30, _, h | _ + 31, _, h => h
section
variable {Z X Y w0 WS : World} {g1 g2 g3 g bd len cap : Nat} {v1 v2 v3 u0 u1 u2 u3 u4 : Value} {a : Option Addr}
theorem tri_below (h : X.cell? ⟨g1, 0, none⟩ = some v1 ∧ X.cell? ⟨g2, 0, none⟩ = some v2 ∧ X.cell? ⟨g3, 0, none⟩ = some v3 ∧ Below Z.heap.size Z X) (b : Below X.heap.size X Y) :
    Y.cell? ⟨g1, 0, none⟩ = some v1 ∧ Y.cell? ⟨g2, 0, none⟩ = some v2 ∧ Y.cell? ⟨g3, 0, none⟩ = some v3 ∧ Below Z.heap.size Z Y :=
  ⟨(b.cell (p := ⟨g1, 0, none⟩) (World.block_lt_of_cell? X _ h.1)).trans h.1, (b.cell (p := ⟨g2, 0, none⟩) (World.block_lt_of_cell? X _ h.2.1)).trans h.2.1, (b.cell (p := ⟨g3, 0, none⟩) (World.block_lt_of_cell? X _ h.2.2.1)).trans h.2.2.1, h.2.2.2.trans (b.mono h.2.2.2.size)⟩
theorem tri_drew (h : X.cell? ⟨g1, 0, none⟩ = some v1 ∧ X.cell? ⟨g2, 0, none⟩ = some v2 ∧ X.cell? ⟨g3, 0, none⟩ = some v3 ∧ Below Z.heap.size Z X) :
    X.drew.cell? ⟨g1, 0, none⟩ = some v1 ∧ X.drew.cell? ⟨g2, 0, none⟩ = some v2 ∧ X.drew.cell? ⟨g3, 0, none⟩ = some v3 ∧ Below Z.heap.size Z X.drew := ⟨h.1, h.2.1, h.2.2.1, h.2.2.2.drew⟩
theorem tri_b (h : X.cell? ⟨g1, 0, none⟩ = some v1 ∧ X.cell? ⟨g2, 0, none⟩ = some v2 ∧ X.cell? ⟨g3, 0, none⟩ = some v3 ∧ Below Z.heap.size Z X) : Below Z.heap.size Z X := h.2.2.2
theorem pen_keep (h : X.cell? ⟨g, 0, none⟩ = some u0 ∧ X.cell? ⟨g, 1, none⟩ = some u1 ∧ X.cell? ⟨g, 2, none⟩ = some u2 ∧ X.cell? ⟨g, 3, none⟩ = some u3 ∧ X.cell? ⟨g, 4, none⟩ = some u4 ∧ Game w0 X bd a len cap ∧ WS.grownBy X (some bd)) (hg : g ≠ bd) (gm : Game w0 Y bd a len cap) (gb : X.grownBy Y (some bd)) :
    Y.cell? ⟨g, 0, none⟩ = some u0 ∧ Y.cell? ⟨g, 1, none⟩ = some u1 ∧ Y.cell? ⟨g, 2, none⟩ = some u2 ∧ Y.cell? ⟨g, 3, none⟩ = some u3 ∧ Y.cell? ⟨g, 4, none⟩ = some u4 ∧ Game w0 Y bd a len cap ∧ WS.grownBy Y (some bd) :=
  ⟨gb.cell h.1 (by simpa using hg), gb.cell h.2.1 (by simpa using hg), gb.cell h.2.2.1 (by simpa using hg), gb.cell h.2.2.2.1 (by simpa using hg), gb.cell h.2.2.2.2.1 (by simpa using hg), gm, gb_tr h.2.2.2.2.2.2 gb⟩
theorem pen_game (h : X.cell? ⟨g, 0, none⟩ = some u0 ∧ X.cell? ⟨g, 1, none⟩ = some u1 ∧ X.cell? ⟨g, 2, none⟩ = some u2 ∧ X.cell? ⟨g, 3, none⟩ = some u3 ∧ X.cell? ⟨g, 4, none⟩ = some u4 ∧ Game w0 X bd a len cap ∧ WS.grownBy X (some bd)) : Game w0 X bd a len cap ∧ WS.grownBy X (some bd) := h.2.2.2.2.2
theorem pen_drew (h : X.cell? ⟨g, 0, none⟩ = some u0 ∧ X.cell? ⟨g, 1, none⟩ = some u1 ∧ X.cell? ⟨g, 2, none⟩ = some u2 ∧ X.cell? ⟨g, 3, none⟩ = some u3 ∧ X.cell? ⟨g, 4, none⟩ = some u4 ∧ Game w0 X bd a len cap ∧ WS.grownBy X (some bd)) :
    X.drew.cell? ⟨g, 0, none⟩ = some u0 ∧ X.drew.cell? ⟨g, 1, none⟩ = some u1 ∧ X.drew.cell? ⟨g, 2, none⟩ = some u2 ∧ X.drew.cell? ⟨g, 3, none⟩ = some u3 ∧ X.drew.cell? ⟨g, 4, none⟩ = some u4 ∧ Game w0 X.drew bd a len cap ∧ WS.grownBy X.drew (some bd) :=
  ⟨h.1, h.2.1, h.2.2.1, h.2.2.2.1, h.2.2.2.2.1, h.2.2.2.2.2.1.drew, gb_drew h.2.2.2.2.2.2⟩
theorem pen_alloc (h : X.cell? ⟨g, 0, none⟩ = some u0 ∧ X.cell? ⟨g, 1, none⟩ = some u1 ∧ X.cell? ⟨g, 2, none⟩ = some u2 ∧ X.cell? ⟨g, 3, none⟩ = some u3 ∧ X.cell? ⟨g, 4, none⟩ = some u4 ∧ Game w0 X bd a len cap ∧ WS.grownBy X (some bd)) (hg : g ≠ bd) (o : Obj) :
    (X.alloc o).cell? ⟨g, 0, none⟩ = some u0 ∧ (X.alloc o).cell? ⟨g, 1, none⟩ = some u1 ∧ (X.alloc o).cell? ⟨g, 2, none⟩ = some u2 ∧ (X.alloc o).cell? ⟨g, 3, none⟩ = some u3 ∧ (X.alloc o).cell? ⟨g, 4, none⟩ = some u4 ∧ Game w0 (X.alloc o) bd a len cap ∧ WS.grownBy (X.alloc o) (some bd) :=
  pen_keep h hg (h.2.2.2.2.2.1.by_below (below_box X o)) (gb_of_below (below_box X o) _)
end
def DG46 (tx : ByteArray) (bd c : Nat) : Nat → Value → World → Prop
  | 0, v, _ => v = .string tx
  | 1, v, _ => v = .int .i64 (c : Int)
  | 2, v, _ => ∃ z : ByteArray, v = .string z ∧ z.size ≤ 2466
  | 3, v, W => ∃ B, v = .slice (some ⟨B, 0, none⟩) 5 5 ∧ W.heap[B]? = some (.cells #[.string ⟨#[]⟩, .string ⟨#[32]⟩, .string ⟨#[10]⟩, .string ⟨#[115]⟩, .string ⟨#[48]⟩] 9 (0, 0)) ∧ B ≠ bd
  | 4, v, _ => v = .pointer (some ⟨bd, 0, none⟩)
  | 5, v, _ => ∃ i : Nat, v = .int .i64 (i : Int) ∧ i < 5
  | 6, v, W => ∃ B i, i < 5 ∧ v = .pointer (some ⟨B, i, none⟩) ∧ W.heap[B]? = some (.cells #[.string ⟨#[]⟩, .string ⟨#[32]⟩, .string ⟨#[10]⟩, .string ⟨#[115]⟩, .string ⟨#[48]⟩] 9 (0, 0)) ∧ B ≠ bd
  | 7, v, _ => ∃ z : ByteArray, v = .string z ∧ z.size ≤ 1
  | 8, v, _ => ∃ z : ByteArray, v = .string z ∧ z.size ≤ 2467
  | 9, v, _ => v = .string tx
  | 10, v, _ => v = .int .i64 (c : Int)
  | 11, v, _ => v = .pointer (some ⟨bd, 0, none⟩)
  | 12, v, _ => ∃ i : Nat, v = .int .i64 (i : Int) ∧ i < 2
  | 13, v, _ => ∃ m : Nat, v = .int .i64 (m : Int) ∧ m ≤ c + 1
  | 14, v, _ => ∃ z : ByteArray, v = .string z ∧ z.size ≤ 2466
  | 15, v, _ => ∃ z : ByteArray, v = .string z ∧ z.size ≤ 4933
  | 16, v, _ => ∃ z : ByteArray, v = .string z ∧ z.size ≤ 4933
  | _, _, _ => True
theorem DG46.kept {tx : ByteArray} {bd c : Nat} {W W' : World} (hg : W.grownBy W' (some bd)) : ∀ j v, DG46 tx bd c j v W → DG46 tx bd c j v W'
  | 3, _, ⟨B, h1, h2, h3⟩ => ⟨B, h1, hg.block_at h2 (lt_of_block h2) (by simpa using h3), h3⟩
  | 6, _, ⟨B, i, i5, h1, h2, h3⟩ => ⟨B, i, i5, h1, hg.block_at h2 (lt_of_block h2) (by simpa using h3), h3⟩
  | 0, _, h | 1, _, h | 2, _, h | 4, _, h | 5, _, h | 7, _, h | 8, _, h | 9, _, h | 10, _, h | 11, _, h | 12, _, h | 13, _, h | 14, _, h | 15, _, h | 16, _, h | _ + 17, _, h => h
set_option maxRecDepth 100000 in
set_option maxHeartbeats 16000000 in
/-- the walk but for three pieces: the first register made odd; a round of the loop over the registers; what comes behind that loop -/
noncomputable def part1 : PSigma fun G1 : Prop => PSigma fun G2 : Prop => PSigma fun G3 : Prop => Hid (∀ n : Nat, n = 7 → G1) → Hid (∀ n : Nat, n = 8 → G2) → Hid (∀ n : Nat, n = 9 → G3) → ∀ (la : Option Addr) (len cap : Nat) (zs : List Int) (ra : Option Addr) (RN rc : Nat) (rps : List Pn) (p : Pn) (s : ByteArray) (k t : Int) (w : World) (_hr : IsRow .i64 w la len cap zs) (_hraw : RegIn w ra RN rc rps) (_hrk : SkI rps) (_hpn : p.nm.size ≤ maxLen) (_hpk : I64 p.sk) (_hsz : s.size ≤ maxLen) (_k0 : -9223372036854775808 ≤ k) (_k1 : k ≤ 9223372036854775807) (_t0 : -9223372036854775808 ≤ t) (_t1 : t ≤ 9223372036854775807) (_h : RTabs w), Calls Tryz.prog 3 #[.slice la len cap, .agg #[.slice ra RN rc], pnV p, .string s, .int .i64 k, .int .i64 t] w fun e w' => e = .returned (.bool true) ∧ Below w.heap.size w w' := by
  apply PSigma.mk
  apply PSigma.mk
  apply PSigma.mk
  intro hG1 hG2 hG3
  intro la len cap zs ra RN rc rps p s k t w hr hraw hrk hpn hpk hsz _k0 _k1 _t0 _t1 h
  have hl : len ≤ 9223372036854775807 := by
    rcases hr with ⟨_, h, _⟩ | ⟨_, _, h1, h2, _⟩
    · omega
    · unfold maxLen at h2; omega
  unfold maxLen at hsz hpn
  have bx := below_box w (.cells #[.slice ra RN rc] 25)
  have by_ := below_box (w.alloc (.cells #[.slice ra RN rc] 25)) (.cells #[.string p.nm, .int .i64 p.co, .int .i64 p.sk, .int .i64 p.fr, .int .i64 p.un] 27)
  have bxy := bx.trans (by_.mono bx.size)
  have o1 := (OneAt.new w (.slice ra RN rc) 25).below by_ (by simp)
  have p1 := PnAt.new (w.alloc (.cells #[.slice ra RN rc] 25)) p 27
  obtain ⟨x, hx⟩ : ∃ x, w.heap.size = x := ⟨_, rfl⟩
  have hs1 : (w.alloc (.cells #[.slice ra RN rc] 25)).heap.size = x + 1 := by rw [← hx]; simp
  obtain ⟨W1, hW1⟩ : ∃ W, (w.alloc (.cells #[.slice ra RN rc] 25)).alloc (.cells #[.string p.nm, .int .i64 p.co, .int .i64 p.sk, .int .i64 p.fr, .int .i64 p.un] 27) = W := ⟨_, rfl⟩
  rw [hW1] at bxy o1 p1
  rw [hs1] at p1
  have TAB : Hid (∀ W, Below W1.heap.size W1 W → RTabs W) := fun W b => h.below (bxy.trans (b.mono bxy.size))
  have RAW : Hid (∀ W, Below W1.heap.size W1 W → RegIn W ra RN rc rps) := fun W b => hraw.below (bxy.trans (b.mono bxy.size))
  rw [hx] at o1
  have OX : Hid (∀ W, Below W1.heap.size W1 W → OneAt W x (.slice ra RN rc)) := fun W b => o1.below b o1.2
  have PX : Hid (∀ W, Below W1.heap.size W1 W → PnAt W (x + 1) p) := fun W b => p1.below b p1.2.2.2.2.2
  have HR0 := Lib.hid (hr.below bxy)
  have RK := Lib.hid hrk
  have BX := Lib.hid bxy
  obtain ⟨k0, -⟩ := OX.out W1 (Below.refl _ _)
  clear hr hraw hrk h bx by_ bxy o1 p1
  obtain ⟨nm, co, sk, fr, un⟩ := p
  unfold pnV
  dsimp only at *
  by_cases h4 : len ≤ 400
  · have t1 : decide ((len : Int) ≤ 400) = true := decide_eq_true (by omega)
    by_cases h5 : RN ≤ 70
    · have t2 : decide ((70 : Int) < (RN : Int)) = false := decide_eq_false (by omega)
      by_cases h6 : s.size ≤ 1000
      · have t3 : decide ((1000 : Int) < (s.size : Int)) = false := decide_eq_false (by omega)
        go_enter Tryz.func3, Tryz.ntmps3
        go_wp2_with fail
        refine (few_any _ _ _ _ hl).mono ?_; rintro e w' ⟨rfl, rfl⟩
        go_wp2_with fail
        (try rw [hW1])
        (try rw [hx])
        clear hW1 hs1 k0 t1 t2 t3 h4 hl
        refine (newg_any _ _ _ _).mono ?_; rintro e w1 ⟨rfl, g1⟩
        have hbw := g1.lt
        obtain ⟨bd, hbd⟩ : ∃ b, W1.heap.size = b := ⟨_, rfl⟩
        have HB := Lib.hid hbd
        rw [hbd] at hbw g1 ⊢
        go_wp2_with fail
        refine (some_is g1 HR0.out).mono ?_; rintro e w2 ⟨a, N, c, ps, rfl, rg, ok, l6, g2, gb2⟩
        obtain ⟨V1, hV1⟩ : ∃ W, (w2.alloc (.cells #[.slice none 0 0] 25)).setCell ⟨w2.heap.size, 0, none⟩ (.slice a N c) = W := ⟨_, rfl⟩
        obtain ⟨o1, b1, l1, c0, z0⟩ := boxed w2 a N c V1 hV1
        obtain ⟨rb, hrb⟩ : ∃ b, w2.heap.size = b := ⟨_, rfl⟩
        have hrbd : rb ≠ bd := by have := g2.lt; omega
        rw [hrb] at hV1 o1 l1 c0 z0
        have G1 := Lib.hid (g2.by_below b1)
        have RG1 := Lib.hid (rg.below b1)
        have RB1 := Lib.hid o1
        have OKP := Lib.hid ok
        have hN6 : N ≤ 6 := by rw [← rg.len]; exact l6
        have LN := Lib.hid rg.len
        have RH1 : Hid (V1.heap[rb]? = some (.cells #[.slice a N c] 25 (0, 0))) := by
          have hz := heap_alloc_new w2 (.cells #[.slice none 0 0] 25)
          have := set_at (i := 0) (.slice a N c) hz
          rw [hrb, hV1] at this; exact this
        clear b1 o1 rg ok g1 g2 gb2 l6 hbw l1 hbd
        have k1 := RB1.out.1
        go_upto_if 73 with (at_builtin; refine wpList_append_reg rfl (.tmp 67) rfl rfl RG1.out (by omega) ?_; intro a2 c2 w3 own3 R3 gr3; have OWN3 := Lib.hid own3; have RG3 := Lib.hid R3; have GR3 := Lib.hid gr3; clear own3 R3 gr3 k1)
        obtain ⟨base, hbase⟩ : ∃ b, V1.heap.size = b := ⟨_, rfl⟩
        obtain ⟨ob, hob⟩ : ∃ b, w3.heap.size = b := ⟨_, rfl⟩
        have O0 : Hid (OdS W1 (w3.alloc (.cells #[.slice a2 N c2] 25)) la len cap bd rb ob base a N c ps a2 c2 ps) := by
          have hz := heap_alloc_new w3 (.cells #[.slice a2 N c2] 25)
          have ba := below_box w3 (.cells #[.slice a2 N c2] 25)
          have h3 := GR3.out.size
          have hbl := G1.out.lt
          have g3 : Game W1 w3 bd la len cap := G1.out.grown GR3.out (fun e => by cases e) (fun k hk => by cases hk)
          rw [hob] at hz
          have hr1 := RH1.out
          have hr1l := lt_of_block hr1
          refine ⟨g3.alloc _, blk ba (by have := GR3.out.size; omega) (GR3.out.block_at hr1 hr1l (by simp)), ?_, hz, ?_, RG3.out.fit, SkI.of_ok OKP.out, LN.out, hrbd, by omega, by omega, ?_⟩
          · exact (RG1.out.below ⟨GR3.out.os, GR3.out.tape, GR3.out.output, GR3.out.size, fun k hk => GR3.out.block k hk (by simp)⟩).below ba
          · rw [← hbase]; exact OWN3.out.grown (grown_alloc (gb_refl w3 none) _) (fun k hk => by cases hk)
          · intro ad e
            rcases RG1.out.rin with h1 | ⟨g, o, e2, hl, _⟩
            · rw [h1.1] at e; cases e
            · rw [e] at e2; injection e2 with e2; rw [e2]; dsimp only; omega
        clear hbase
        rw [hob]
        go_cut [16, 86, 93, 106] (fun s16 s86 s93 s106 wx => ∃ qs, OdS W1 wx la len cap bd rb ob base a N c ps a2 c2 qs)
        case first =>
          rename_i i1_ i2_ i3_ i4_ i5_ i6_ i7_
          revert la len cap zs ra RN rc rps s k t w hsz _k0 _k1 _t0 _t1 x hx W1 TAB RAW OX HR0 RK BX nm co sk fr un hpn hpk PX h5 h6 i1_ w1 bd HB w2 a N c ps V1 rb z0 c0 hV1 hrb hrbd G1 RG1 RB1 OKP hN6 LN RH1 a2 c2 w3 OWN3 RG3 GR3 i2_ i3_ base ob hob O0 i4_ i5_ i6_ i7_
          exact hG1.out 7 rfl
        case rest =>
          clear hG1
          obtain ⟨qs, hO⟩ := hcut
          have PR := Lib.hid (fun W (h : RegIn W a N c ps) => rprint_good a N c ps W h OKP.out)
          have hpl := text_len OKP.out.all
          rw [LN.out] at hpl
          obtain ⟨tx, htx⟩ : ∃ z, bs (printP ps) = z := ⟨_, rfl⟩
          have htz : tx.size ≤ 2466 := by rw [← htx, bs_size]; omega
          rw [htx] at PR
          have d1 := (cell_atR hO.one 0).1
          have HO := Lib.hid hO
          clear hO O0 htx hpl
          go_wp2_with fail
          clear d1
          refine (PR.out _ HO.out.reg).mono ?_; rintro e W6 ⟨rfl, b6⟩
          have O6 := Lib.hid (HO.out.draw (HO.out.game.by_below b6) (gb_of_below b6 _))
          clear b6 HO PR
          have d1 := (cell_atR O6.out.one 0).1
          have d2 := (OX.out W6 O6.out.game.below).1
          have d3 := (cell_atR O6.out.odd 0).1
          go_wp2_with fail
          clear d1 d2 d3
          obtain ⟨V, hV⟩ : ∃ W, W6.alloc (.cells #[.slice a N c, .slice ra RN rc, .slice a2 N c2] 25) = W := ⟨_, rfl⟩
          obtain ⟨sb, hsb⟩ : ∃ b, W6.heap.size = b := ⟨_, rfl⟩
          have bv := below_box W6 (.cells #[.slice a N c, .slice ra RN rc, .slice a2 N c2] 25)
          have hz := heap_alloc_new W6 (.cells #[.slice a N c, .slice ra RN rc, .slice a2 N c2] 25)
          have GV := Lib.hid (O6.out.game.by_below bv)
          have hsbd : sb ≠ bd := by have := O6.out.game.lt; omega
          obtain ⟨a2', c2', e2, hq⟩ := reg_of O6.out.own O6.out.fit
          have hqn := O6.out.n
          rw [hqn] at e2 hq
          injection e2 with e2 _ e3
          subst e2 e3
          have TR : Hid (∀ i, i < 3 → ∃ b M d us, V.cell? ⟨sb, i, none⟩ = some (.slice b M d) ∧ RegIn V b M d us ∧ SkI us) := fun i hi => by
            rw [← hV]
            rw [hsb] at hz
            rcases (show i = 0 ∨ i = 1 ∨ i = 2 by omega) with rfl | rfl | rfl
            · exact ⟨a, N, c, ps, (cell_atR hz 0).1, O6.out.reg.below bv, SkI.of_ok OKP.out⟩
            · exact ⟨ra, RN, rc, rps, (cell_atR hz 1).1, (RAW.out W6 O6.out.game.below).below bv, RK.out⟩
            · exact ⟨a2, N, c2, qs, (cell_atR hz 2).1, hq.below bv, O6.out.sk⟩
          have hsl : sb < V.heap.size := by rw [← hV, ← hsb]; simp
          rw [hV] at GV
          rw [hsb]
          (try rw [hV])
          clear hV hsb bv hz hq hqn O6
          go_loopw [128] (fun iv wr => ∃ i : Nat, i ≤ 3 ∧ iv = .int .i64 i ∧ Hid (Game W1 wr bd la len cap) ∧ Hid (V.grownBy wr (some bd))) (fun iv _ => 3 - (intOf iv).toNat)
          case atStart => exact ⟨0, by decide, rfl, GV.out, gb_refl V _⟩
          case round =>
            obtain ⟨i, hi3, rfl, GW, GR⟩ := hrel
            by_cases hlt : i < 3
            ·
              rename_i i1_ i2_ i3_ i4_ i5_ i6_ i7_ i8_ i9_ i10_ i11_ i12_ i13_ i14_ i15_ i16_ i17_ i18_ i19_ i20_ i21_ i22_ i23_ i24_ i25_ i26_ i27_ i28_ i29_ i30_ i31_ i32_ i33_ i34_ i35_ i36_ i37_ i38_ i39_ i40_ i41_ i42_ i43_ i44_ i45_ i46_ i47_ i48_ i49_ i50_ i51_ i52_ i53_ i54_ i55_ i56_ i57_ i58_ i59_ i60_ i61_ i62_ i63_ i64_ i65_ i66_ i67_ i68_ i69_ i70_ i71_ i72_ i73_ i74_ i75_ i76_ i77_ i78_ i79_ i80_ i81_ i82_ i83_ i84_ i85_ i86_ i87_ i88_ i89_ i90_ i91_ i92_ i93_ i94_ i95_ i96_ i97_ i98_ i99_ i100_ i101_ i102_ i103_ i104_ i105_ i106_ i107_ i108_ i109_
              revert la len cap zs ra RN rc rps s k t w hsz _k0 _k1 _t0 _t1 x hx W1 TAB RAW OX HR0 RK BX nm co sk fr un hpn hpk PX h5 h6 i1_ w1 bd HB w2 a N c ps V1 rb z0 c0 hV1 hrb hrbd G1 RG1 RB1 OKP hN6 LN RH1 a2 c2 w3 OWN3 RG3 GR3 base ob hob wc u16 u47 u48 u49 u50 u51 u52 u53 u54 u55 u56 u57 u58 u59 u60 u61 u62 u63 u64 u65 u66 u67 u68 u69 u70 u71 u72 u73 u74 u75 u76 u77 u78 u79 u80 u81 u82 u83 u84 u85 u86 u87 u88 u89 u90 u91 u92 u93 u94 u95 u96 u97 u98 u99 u100 u101 u102 u103 u104 u105 u106 u107 u108 u109 u110 u111 u112 u113 u114 u115 u116 u117 u118 u119 u120 u121 u122 u123 u124 u125 i2_ i3_ i4_ i5_ i6_ i7_ i8_ i9_ i10_ i11_ i12_ i13_ i14_ i15_ i16_ i17_ i18_ i19_ i20_ i21_ i22_ i23_ i24_ i25_ i26_ i27_ i28_ i29_ i30_ i31_ i32_ i33_ i34_ i35_ i36_ i37_ i38_ i39_ i40_ i41_ i42_ i43_ i44_ i45_ i46_ i47_ i48_ i49_ i50_ i51_ i52_ i53_ i54_ i55_ i56_ i57_ i58_ i59_ i60_ i61_ i62_ i63_ i64_ i65_ i66_ i67_ i68_ i69_ i70_ i71_ i72_ i73_ i74_ i75_ i76_ i77_ i78_ i79_ i80_ i81_ i82_ i83_ i84_ i85_ i86_ i87_ i88_ i89_ i90_ i91_ i92_ i93_ i94_ i95_ i96_ i97_ i98_ i99_ i100_ i101_ i102_ i103_ i104_ i105_ i106_ u240 u241 u242 u243 u244 u245 u246 u247 u248 u249 u250 u251 u252 u253 u254 u255 u256 u257 u258 u259 u260 u261 u262 u263 u264 u265 u266 u267 u268 u269 u273 u274 u275 u276 u277 u278 u279 u280 u281 u282 u283 u284 u285 u286 u287 u288 u289 u290 u291 u292 u293 u294 u295 u296 u297 u298 u299 u300 u301 u302 u303 qs tx htz W6 i107_ i108_ V sb GV hsbd i109_ TR hsl wr u12 u20 u22 u23 u24 u25 u26 u28 u29 u30 u31 u32 u33 u34 u35 u36 u129 u130 u131 u132 u133 u134 u135 u136 u137 u138 u139 u140 u141 u142 u143 u144 u145 u146 u147 u148 u149 u150 u151 u152 u153 u154 u155 u156 u157 u158 u159 u160 u161 u162 u163 u164 u165 u166 u167 u168 u169 u170 u171 u172 u173 u174 u175 u176 u177 u178 u179 u180 u181 u182 u183 u184 u185 u186 u187 u188 u189 u190 u191 u192 u193 u194 u195 u196 u197 u198 u199 u200 u201 u202 u203 u204 u205 u206 u207 u208 u209 u210 u211 u212 u213 u214 u215 u216 u217 u218 u219 u220 u221 u222 u223 u224 u225 u226 u227 u228 u229 u230 u231 u232 u233 u234 u235 u236 u237 u238 u239 i hi3 GW GR hlt
              exact hG2.out 8 rfl
            · clear hG2
              obtain rfl : i = 3 := by omega
              clear TR hsl hsbd
              rename_i i1_ i2_ i3_ i4_ i5_ i6_ i7_ i8_ i9_ i10_ i11_ i12_ i13_ i14_ i15_ i16_ i17_ i18_ i19_ i20_ i21_ i22_ i23_ i24_ i25_ i26_ i27_ i28_ i29_ i30_ i31_ i32_ i33_ i34_ i35_ i36_ i37_ i38_ i39_ i40_ i41_ i42_ i43_ i44_ i45_ i46_ i47_ i48_ i49_ i50_ i51_ i52_ i53_ i54_ i55_ i56_ i57_ i58_ i59_ i60_ i61_ i62_ i63_ i64_ i65_ i66_ i67_ i68_ i69_ i70_ i71_ i72_ i73_ i74_ i75_ i76_ i77_ i78_ i79_ i80_ i81_ i82_ i83_ i84_ i85_ i86_ i87_ i88_ i89_ i90_ i91_ i92_ i93_ i94_ i95_ i96_ i97_ i98_ i99_ i100_ i101_ i102_ i103_ i104_ i105_ i106_ i107_ i108_ i109_
              revert la len cap zs ra RN rc rps s k t w hsz _k0 _k1 _t0 _t1 x hx W1 TAB RAW OX HR0 RK BX nm co sk fr un hpn hpk PX h5 h6 i1_ w1 bd HB w2 a N c ps V1 rb z0 c0 hV1 hrb hrbd G1 RG1 RB1 OKP hN6 LN RH1 a2 c2 w3 OWN3 RG3 GR3 base ob hob wc u16 u47 u48 u49 u50 u51 u52 u53 u54 u55 u56 u57 u58 u59 u60 u61 u62 u63 u64 u65 u66 u67 u68 u69 u70 u71 u72 u73 u74 u75 u76 u77 u78 u79 u80 u81 u82 u83 u84 u85 u86 u87 u88 u89 u90 u91 u92 u93 u94 u95 u96 u97 u98 u99 u100 u101 u102 u103 u104 u105 u106 u107 u108 u109 u110 u111 u112 u113 u114 u115 u116 u117 u118 u119 u120 u121 u122 u123 u124 u125 i2_ i3_ i4_ i5_ i6_ i7_ i8_ i9_ i10_ i11_ i12_ i13_ i14_ i15_ i16_ i17_ i18_ i19_ i20_ i21_ i22_ i23_ i24_ i25_ i26_ i27_ i28_ i29_ i30_ i31_ i32_ i33_ i34_ i35_ i36_ i37_ i38_ i39_ i40_ i41_ i42_ i43_ i44_ i45_ i46_ i47_ i48_ i49_ i50_ i51_ i52_ i53_ i54_ i55_ i56_ i57_ i58_ i59_ i60_ i61_ i62_ i63_ i64_ i65_ i66_ i67_ i68_ i69_ i70_ i71_ i72_ i73_ i74_ i75_ i76_ i77_ i78_ i79_ i80_ i81_ i82_ i83_ i84_ i85_ i86_ i87_ i88_ i89_ i90_ i91_ i92_ i93_ i94_ i95_ i96_ i97_ i98_ i99_ i100_ i101_ i102_ i103_ i104_ i105_ i106_ u240 u241 u242 u243 u244 u245 u246 u247 u248 u249 u250 u251 u252 u253 u254 u255 u256 u257 u258 u259 u260 u261 u262 u263 u264 u265 u266 u267 u268 u269 u273 u274 u275 u276 u277 u278 u279 u280 u281 u282 u283 u284 u285 u286 u287 u288 u289 u290 u291 u292 u293 u294 u295 u296 u297 u298 u299 u300 u301 u302 u303 qs tx htz W6 i107_ i108_ V sb GV i109_ wr u12 u20 u22 u23 u24 u25 u26 u28 u29 u30 u31 u32 u33 u34 u35 u36 u129 u130 u131 u132 u133 u134 u135 u136 u137 u138 u139 u140 u141 u142 u143 u144 u145 u146 u147 u148 u149 u150 u151 u152 u153 u154 u155 u156 u157 u158 u159 u160 u161 u162 u163 u164 u165 u166 u167 u168 u169 u170 u171 u172 u173 u174 u175 u176 u177 u178 u179 u180 u181 u182 u183 u184 u185 u186 u187 u188 u189 u190 u191 u192 u193 u194 u195 u196 u197 u198 u199 u200 u201 u202 u203 u204 u205 u206 u207 u208 u209 u210 u211 u212 u213 u214 u215 u216 u217 u218 u219 u220 u221 u222 u223 u224 u225 u226 u227 u228 u229 u230 u231 u232 u233 u234 u235 u236 u237 u238 u239 GW GR hi3 hlt
              exact hG3.out 9 rfl
      · clear hG1 hG2 hG3
        have t3 : decide ((1000 : Int) < (s.size : Int)) = true := decide_eq_true (by omega)
        go_enter Tryz.func3, Tryz.ntmps3
        go_wp2_with fail
        refine (few_any _ _ _ _ hl).mono ?_; rintro e w' ⟨rfl, rfl⟩
        go_wp2_with fail
        (try rw [hW1])
        clear hW1
        refine (awake_is _ (TAB.out _ (Below.refl _ _)).ct.tabs.cls).mono ?_; rintro e w4 ⟨rfl, b4⟩
        have BZ := Lib.hid (BX.out.trans (b4.mono BX.out.size))
        clear b4
        go_wp2
        go_ret
        exact ⟨rfl, BZ.out⟩
    · clear hG1 hG2 hG3
      have t2 : decide ((70 : Int) < (RN : Int)) = true := decide_eq_true (by omega)
      go_enter Tryz.func3, Tryz.ntmps3
      go_wp2_with fail
      refine (few_any _ _ _ _ hl).mono ?_; rintro e w' ⟨rfl, rfl⟩
      go_wp2_with fail
      (try rw [hW1])
      clear hW1
      refine (awake_is _ (TAB.out _ (Below.refl _ _)).ct.tabs.cls).mono ?_; rintro e w4 ⟨rfl, b4⟩
      have BZ := Lib.hid (BX.out.trans (b4.mono BX.out.size))
      clear b4
      go_wp2
      go_ret
      exact ⟨rfl, BZ.out⟩
  · clear hG1 hG2 hG3
    have t1 : decide ((len : Int) ≤ 400) = false := decide_eq_false (by omega)
    go_enter Tryz.func3, Tryz.ntmps3
    go_wp2_with fail
    refine (few_any _ _ _ _ hl).mono ?_; rintro e w' ⟨rfl, rfl⟩
    go_wp2_with fail
    (try rw [hW1])
    clear hW1
    refine (awake_is _ (TAB.out _ (Below.refl _ _)).ct.tabs.cls).mono ?_; rintro e w4 ⟨rfl, b4⟩
    have BZ := Lib.hid (BX.out.trans (b4.mono BX.out.size))
    clear b4
    go_wp2
    go_ret
    exact ⟨rfl, BZ.out⟩
end Go.Proofs.YthdjpmiohfaphaaGreatDoor.reg
