/- mk.Odd: a network of which something is changed can still be read. Condition: none. -/
import Derived.Test.YtdgllaiejhnjmaaDoorNetY
import Derived.Test.YtdgllaiejhnjmaaDoorInv
import Derived.Laws.AppendOwn
import Derived.RegionTactic
import Derived.BigRegion
import Derived.Deep.RegionLaw
namespace Go.Proofs.YtdgllaiejhnjmaaDoor.net
open Go.RowKit lex aggs kit deck

theorem step_append_own {P : Program} {w : World} {y : Nat → Option Bool} {o : Oper} {a : Act} {K : Act → World → Prop} {Q : Exit → Act → World → Prop} {E : Prop} (hgd : o.guard = none) (s x : Operand) (t : TypeId)
    (ho : o.op = .call { callee := .builtin .append, args := #[s, x], argTypes := #[t, t] })
    (base : Nat) (e : TypeId) (i : TypeInfo) (z : Value) (size bytes : Nat) (ht : P.underlying t = some (.slice e)) (hi : P.info? e = some i) (hz : i.zero = some z)
    (hsize : i.size = size) (hby : i.bytes = bytes) (hzs : z.cells.size = size) (hsz : 0 < size)
    (v : Value) (n : Nat) (xs : List Value) (hs : a.eval s = v) (hown : w.ownsRow base e size v n xs)
    (ad : Addr) (m c : Nat) (news : List Value) (hx : a.eval x = .slice (some ad) m c) (hl : news.length = m * size) (hnews : ∀ j u, news[j]? = some u → w.cell? (ad.add j) = some u) (h1 : ∀ u ∈ news, u.oneCell' = true)
    (h63 : n + m ≤ maxLen) (hbytes : (n + m) * bytes ≤ 140737488355328) (hbase : base ≤ w.heap.size)
    (h : ∀ v' w', w'.ownsRow base e size v' (n + m) (xs ++ news) → w.grownBy w' v.ownBlock → (v' = .slice none 0 0 ↔ v = .slice none 0 0 ∧ m = 0) → K (a.put o.dst v') w') :
    if Region.wanted o y = true then Oper.wp P o a w K Q else E := by
  have hw : Region.wanted o y = true := by simp [Region.wanted, hgd]
  rw [if_pos hw]
  exact wp_append_own w s x t ho base e i z size bytes ht hi hz hsize hby hzs hsz v n xs hs hown ad m c news hx hl hnews h1 h63 hbytes hbase h
theorem news_cells {α : Type} {enc : α → List Value} {k b off : Nat} {w : World} {xs : List α} (h : CellsAt enc k w b off xs) : ∀ j u, (flat enc xs)[j]? = some u → w.cell? ((⟨b, off, none⟩ : Addr).add j) = some u := by
  intro j u hu
  rw [Go.WideShapes.add_plain]
  exact h j u hu
theorem CellsAt.keep1 {α : Type} {enc : α → List Value} {k b off : Nat} {w w' : World} {row : Option Nat} {xs : List α} (h : CellsAt enc k w b off xs) (hg : w.grownBy w' row) (hb : b < w.heap.size) (hne : some b ≠ row) : CellsAt enc k w' b off xs := by
  intro i u hu
  rw [World.cell?_of_block (a := ⟨b, off + i, none⟩) (hg.block b hb hne)]; exact h i u hu
/-- while the rows are copied: operation 7 puts the nodes in their place, 9 the devices -/
structure S1 (w0 w : World) (a : Option Addr) (len cap bd x : Nat) (vn0 vd0 : Value) (ns : List Nd) (ds : List Dv) (done : Nat → Bool) (W : World) : Prop where
  game : Game w0 W bd a len cap
  grown : w.grownBy W (some bd)
  size : x + 2 ≤ W.heap.size
  res : ∃ T p q, W.heap[x + 1]? = some (.cells #[p, q] T (0, 0))
  net : ∃ T p q, W.heap[x]? = some (.cells #[p, q] T (0, 0)) ∧ (done 7 = false → p = vn0) ∧ (done 9 = false → q = vd0) ∧ (done 7 = true → AggsAt 51 3 encNd W (x + 2) p ns) ∧ (done 9 = true → AggsAt 47 5 encDv W (x + 2) q ds)
def D1 (x : Nat) (vn0 vd0 : Value) (ns : List Nd) (ds : List Dv) : Nat → Value → World → Prop
  | 0, v, _ => v = .pointer (some ⟨x, 0, none⟩)
  | 1, v, _ => v = vn0
  | 2, v, W => AggsAt 51 3 encNd W (x + 2) v ns
  | 3, v, _ => v = .pointer (some ⟨x, 1, none⟩)
  | 4, v, _ => v = vd0
  | 5, v, W => AggsAt 47 5 encDv W (x + 2) v ds
  | 6, v, _ => v = .pointer (some ⟨x, 0, none⟩)
  | 8, v, _ => v = .pointer (some ⟨x, 1, none⟩)
  | _, _, _ => True
theorem D1.kept {x : Nat} {vn0 vd0 : Value} {ns : List Nd} {ds : List Dv} {W W' : World} {row : Option Nat} (hg : W.grownBy W' row) (hr : ∀ k, row = some k → k < x + 2) : ∀ j v, D1 x vn0 vd0 ns ds j v W → D1 x vn0 vd0 ns ds j v W'
  | 0, _, h => h
  | 1, _, h => h
  | 2, _, h => AggsAt.grown (show AggsAt _ _ _ _ _ _ _ from h) hg hr
  | 3, _, h => h
  | 4, _, h => h
  | 5, _, h => AggsAt.grown (show AggsAt _ _ _ _ _ _ _ from h) hg hr
  | 6, _, h => h
  | 7, _, h => h
  | 8, _, h => h
  | _ + 9, _, h => h
section
variable {w0 w W W' : World} {a : Option Addr} {len cap bd x : Nat} {vn0 vd0 : Value} {ns : List Nd} {ds : List Dv} {done : Nat → Bool}
theorem S1.mark (h : S1 w0 w a len cap bd x vn0 vd0 ns ds done W) (i : Nat) (h7 : i ≠ 7) (h9 : i ≠ 9) : S1 w0 w a len cap bd x vn0 vd0 ns ds (fun j => if j = i then true else done j) W := by
  obtain ⟨g, gr, sz, r, T, p, q, e, e1, e2, e3, e4⟩ := h
  have q7 : (if 7 = i then true else done 7) = done 7 := if_neg (Ne.symm h7)
  have q9 : (if 9 = i then true else done 9) = done 9 := if_neg (Ne.symm h9)
  exact ⟨g, gr, sz, r, T, p, q, e, fun h => e1 (q7.symm.trans h), fun h => e2 (q9.symm.trans h), fun h => e3 (q7.symm.trans h), fun h => e4 (q9.symm.trans h)⟩
theorem S1.kept (h : S1 w0 w a len cap bd x vn0 vd0 ns ds done W) (hg : W.grownBy W' none) (_hl : bd < x) : S1 w0 w a len cap bd x vn0 vd0 ns ds done W' := by
  obtain ⟨g, gr, sz, ⟨T1, p1, q1, r⟩, T, p, q, e, e1, e2, e3, e4⟩ := h
  refine ⟨g.grown hg (by simp) (fun k hk => by cases hk), gr.andThen hg (fun j hj => by cases hj), Nat.le_trans sz hg.size, ⟨T1, p1, q1, by rw [hg.block (x + 1) (by omega) (by simp)]; exact r⟩, T, p, q, by rw [hg.block x (by omega) (by simp)]; exact e, e1, e2, fun h => (e3 h).grown hg (fun k hk => by cases hk), fun h => (e4 h).grown hg (fun k hk => by cases hk)⟩
theorem S1.set0 {v : Value} (h : S1 w0 w a len cap bd x vn0 vd0 ns ds done W) (hl : bd < x) (hx : w.heap.size = x) (hm : w0.heap.size ≤ bd) (hv : AggsAt 51 3 encNd W (x + 2) v ns) : S1 w0 w a len cap bd x vn0 vd0 ns ds (fun j => if j = 7 then true else done j) (W.setCell ⟨x, 0, none⟩ v) := by
  obtain ⟨g, gr, sz, ⟨T1, p1, q1, r⟩, T, p, q, e, e1, e2, e3, e4⟩ := h
  have gs : W.grownBy (W.setCell ⟨x, 0, none⟩ v) (some x) := gb_set v (gb_refl W _)
  refine ⟨g.grown gs (by simp; omega) (fun k hk => by cases hk; omega), gb_new v gr (by omega), by simpa using sz, ⟨T1, p1, q1, by rw [gs.block (x + 1) (by omega) (by simp)]; exact r⟩, T, v, q, by have := set_at (i := 0) v e; exact this, fun h => by simp at h, ?_, fun _ => hv.grown gs (fun k hk => by cases hk; omega), ?_⟩
  · simpa using e2
  · intro h; exact (e4 (by simpa using h)).grown gs (fun k hk => by cases hk; omega)
theorem S1.set1 {v : Value} (h : S1 w0 w a len cap bd x vn0 vd0 ns ds done W) (hl : bd < x) (hx : w.heap.size = x) (hm : w0.heap.size ≤ bd) (hv : AggsAt 47 5 encDv W (x + 2) v ds) : S1 w0 w a len cap bd x vn0 vd0 ns ds (fun j => if j = 9 then true else done j) (W.setCell ⟨x, 1, none⟩ v) := by
  obtain ⟨g, gr, sz, ⟨T1, p1, q1, r⟩, T, p, q, e, e1, e2, e3, e4⟩ := h
  have gs : W.grownBy (W.setCell ⟨x, 1, none⟩ v) (some x) := gb_set v (gb_refl W _)
  refine ⟨g.grown gs (by simp; omega) (fun k hk => by cases hk; omega), gb_new v gr (by omega), by simpa using sz, ⟨T1, p1, q1, by rw [gs.block (x + 1) (by omega) (by simp)]; exact r⟩, T, p, v, by have := set_at (i := 1) v e; exact this, ?_, fun h => by simp at h, ?_, fun _ => hv.grown gs (fun k hk => by cases hk; omega)⟩
  · simpa using e1
  · intro h; exact (e3 (by simpa using h)).grown gs (fun k hk => by cases hk; omega)
end
/-- the block of a list of constants -/
def Bk (bd rb sb : Nat) (C : Array Value) (T : Nat) : Option Nat → World → Prop
  | none, _ => True
  | some B, W => W.heap[B]? = some (.cells C T (0, 0)) ∧ B ≠ bd ∧ B ≠ rb ∧ B ≠ sb
theorem Bk.kept {bd rb sb : Nat} {C : Array Value} {T : Nat} {g : Option Nat} {W W' : World} (h : Bk bd rb sb C T g W) (k : ∀ B, B ≠ bd → B ≠ rb → B ≠ sb → B < W.heap.size → W'.heap[B]? = W.heap[B]?) : Bk bd rb sb C T g W' := by
  cases g with
  | none => trivial
  | some B => exact ⟨by rw [k B h.2.1 h.2.2.1 h.2.2.2 (lt_of_block h.1)]; exact h.1, h.2⟩
def DA (V : Nat → Value → Option Nat → Prop) (bd rb sb : Nat) (C : Array Value) (T : Nat) (j : Nat) (v : Value) (W : World) : Prop := ∃ g, V j v g ∧ Bk bd rb sb C T g W
theorem DA.kept {V : Nat → Value → Option Nat → Prop} {bd rb sb : Nat} {C : Array Value} {T : Nat} {W W' : World} (k : ∀ B, B ≠ bd → B ≠ rb → B ≠ sb → B < W.heap.size → W'.heap[B]? = W.heap[B]?) : ∀ j v, DA V bd rb sb C T j v W → DA V bd rb sb C T j v W' :=
  fun _ _ ⟨g, h1, h2⟩ => ⟨g, h1, h2.kept k⟩
theorem keep_gb {W W' : World} {bd rb sb : Nat} (h : W.grownBy W' (some bd)) : ∀ B, B ≠ bd → B ≠ rb → B ≠ sb → B < W.heap.size → W'.heap[B]? = W.heap[B]? := fun B h1 _ _ hB => h.block B hB (fun e => h1 (by injection e))
theorem keep_new {W : World} {bd rb sb : Nat} (o : Obj) : ∀ B, B ≠ bd → B ≠ rb → B ≠ sb → B < W.heap.size → (W.alloc o).heap[B]? = W.heap[B]? := fun B _ _ _ hB => (below_box W o).block B hB
theorem keep_set {W : World} {bd rb sb g i : Nat} (u : Value) (hg : g = rb ∨ g = sb) : ∀ B, B ≠ bd → B ≠ rb → B ≠ sb → B < W.heap.size → (W.setCell ⟨g, i, none⟩ u).heap[B]? = W.heap[B]? := fun B _ h2 h3 _ => Below.heap_setCell _ _ _ _ (fun e => by dsimp only at e; omega)
theorem OS.rlt {w0 w W : World} {a : Option Addr} {len cap bd x rb cn sb cd N M : Nat} (h : OS w0 w W a len cap bd x (.slice (some ⟨rb, 0, none⟩) N cn) (.slice (some ⟨sb, 0, none⟩) M cd) N M) : W.heap.size ≠ bd ∧ W.heap.size ≠ rb ∧ W.heap.size ≠ sb := by
  obtain ⟨ns, ds, h1, h2, h3, h4, -⟩ := h.rows
  have := h.game.lt
  have := (World.ownsRow.lt h3 rb rfl).2
  have := (World.ownsRow.lt h4 sb rfl).2
  omega
theorem OS.res2 {w0 w W : World} {a : Option Addr} {len cap bd x : Nat} {vn vd : Value} {N M : Nat} (h : OS w0 w W a len cap bd x vn vd N M) (u v : Value) : OS w0 w ((W.setCell ⟨x + 1, 0, none⟩ u).setCell ⟨x + 1, 1, none⟩ v) a len cap bd x vn vd N M ∧ ((W.setCell ⟨x + 1, 0, none⟩ u).setCell ⟨x + 1, 1, none⟩ v).cell? ⟨x + 1, 0, none⟩ = some u ∧ ((W.setCell ⟨x + 1, 0, none⟩ u).setCell ⟨x + 1, 1, none⟩ v).cell? ⟨x + 1, 1, none⟩ = some v := by
  have gs : W.grownBy ((W.setCell ⟨x + 1, 0, none⟩ u).setCell ⟨x + 1, 1, none⟩ v) (some (x + 1)) := gb_set v (gb_set u (gb_refl W _))
  obtain ⟨T, p, q, e⟩ := h.res
  have e2 := set_at (i := 1) v (set_at (i := 0) u e)
  obtain ⟨ns, ds, h1, h2, h3, h4, h5⟩ := h.rows
  refine ⟨⟨h.game.grown gs (by have := h.lt; simp; omega) (fun k hk => by cases hk; have := h.game.mine; have := h.lt; omega), ?_, h.hx, h.lt, by have := h.size; simpa using this, ?_, ⟨T, u, v, e2⟩, ns, ds, h1, h2, h3.grown gs (fun k hk => by cases hk; omega), h4.grown gs (fun k hk => by cases hk; omega), h5⟩, (cell_at e2 0).1, (cell_at e2 1).1⟩
  · exact gb_new v (gb_new u h.grown (by have := h.hx; omega)) (by have := h.hx; omega)
  · obtain ⟨T2, e3⟩ := h.net
    exact ⟨T2, by rw [gs.block x (by have := h.size; omega) (by simp)]; exact e3⟩
theorem OS.pushD {w0 w W W1 W5 : World} {a : Option Addr} {len cap bd x : Nat} {vn vd v5 : Value} {N M : Nat} {ns : List Nd} {ds : List Dv} {y : Dv} (h : OS w0 w W a len cap bd x vn vd N M) (l1 : ns.length = N) (l2 : ds.length = M) (h3 : AggsAt 51 3 encNd W (x + 2) vn ns) (h4 : AggsAt 47 5 encDv W (x + 2) vd ds) (h5 : ∀ y ∈ ns, y.nm.size ≤ maxLen) (h6 : ∀ y ∈ ds, Fits y) (b : Below W.heap.size W W1) (hy : Fits y)
    (o : AggsAt 47 5 encDv W5 (x + 2) v5 (ds ++ [y])) (gr : W1.grownBy W5 vd.ownBlock) :
    (W5.cell? ⟨x, 1, none⟩ = some vd ∧ W5.frozen? ⟨x, 1, none⟩ = false) ∧ OS w0 w (W5.setCell ⟨x, 1, none⟩ v5) a len cap bd x vn v5 N (M + 1) := by
  have o1 : ∀ k, vd.ownBlock = some k → x + 2 ≤ k := fun k hk => (World.ownsRow.lt h4 k hk).1
  have hsz := h.size
  have hsz1 := b.size
  have hlt := h.lt
  have hxx := h.hx
  have hmine := h.game.mine
  have g1 : ∀ k, k < x + 2 → W5.heap[k]? = W.heap[k]? := fun k hk => (gr.block k (by omega) (fun e => by have := o1 k e.symm; omega)).trans (b.block k (by omega))
  obtain ⟨T, e⟩ := h.net
  have e5 : W5.heap[x]? = some (.cells #[vn, vd] T (0, 0)) := by rw [g1 x (by omega)]; exact e
  have gs : W5.grownBy (W5.setCell ⟨x, 1, none⟩ v5) (some x) := gb_set _ (gb_refl W5 _)
  have h41 := h4.below b
  have h31 := h3.below b
  refine ⟨⟨(cell_at e5 1).1, (cell_at e5 1).2⟩, ?_⟩
  have gm : Game w0 W5 bd a len cap := (h.game.by_below b).own h41 (by omega) gr
  have gw : w.grownBy W5 (some bd) := (gb_below h.grown b).andThen gr (fun j hj => .inl (by have := o1 j hj; omega))
  refine ⟨gm.grown gs (by simp; omega) (fun k hk => by cases hk; omega), gb_new v5 gw (by omega), h.hx, h.lt, by have := gr.size; simp; omega, ⟨T, set_at (i := 1) v5 e5⟩, ?_, ns, ds ++ [y], l1, by simp [l2], ?_, o.grown gs (fun k hk => by cases hk; omega), h5, ?_⟩
  · obtain ⟨T2, p, q, e3⟩ := h.res
    exact ⟨T2, p, q, by rw [gs.block (x + 1) (by have := gr.size; omega) (by simp), g1 (x + 1) (by omega)]; exact e3⟩
  · have h2 := World.ownsRow.kept h31 gr (by
      cases e : vn.ownBlock with
      | none => exact .inl rfl
      | some k => right; exact fun e2 => own_type h41 h31 (by decide) k e2.symm e)
    exact AggsAt.grown h2 gs (fun k hk => by cases hk; omega)
  · intro z hz
    rcases List.mem_append.1 hz with hz | hz
    · exact h6 z hz
    · rw [List.mem_singleton.1 hz]; exact hy
theorem odd_end {w0 w W : World} {a : Option Addr} {len cap bd x : Nat} {vn vd : Value} {N M : Nat} (h : OS w0 w W a len cap bd x vn vd N M) :
    ((W.setCell ⟨x + 1, 0, none⟩ vn).setCell ⟨x + 1, 1, none⟩ vd).cell? ⟨x + 1, 0, none⟩ = some vn ∧ ((W.setCell ⟨x + 1, 0, none⟩ vn).setCell ⟨x + 1, 1, none⟩ vd).cell? ⟨x + 1, 1, none⟩ = some vd ∧
    OddPost w0 w a len cap bd (.returned (.agg #[vn, vd])) ((W.setCell ⟨x + 1, 0, none⟩ vn).setCell ⟨x + 1, 1, none⟩ vd) := by
  obtain ⟨h1, h2, h3⟩ := h.res2 vn vd
  refine ⟨h2, h3, ?_⟩
  obtain ⟨a', b', c, d, ns, ds, rfl, rfl, hin, k1, k2⟩ := rows_in2 (w := w) (bd := bd) h1.rows (by have := h.lt; omega) (by have := h.hx; omega)
  exact ⟨a', b', N, c, M, d, ns, ds, rfl, hin, k1, k2, h1.game, h1.grown⟩
def VA0 (x bd rb cn _sb _cd N _M : Nat) : Nat → Value → Option Nat → Prop
  | 0, v, _ => v = .pointer (some ⟨x, 0, none⟩)
  | 1, v, _ => v = .slice (some ⟨rb, 0, none⟩) N cn
  | 2, v, _ => v = .pointer (some ⟨bd, 0, none⟩)
  | 3, v, _ => v = .int .i64 (N : Int)
  | 4, v, _ => ∃ k : Nat, k < N ∧ v = .int .i64 (k : Int)
  | 5, v, g => ∃ B, g = some B ∧ v = .slice (some ⟨B, 0, none⟩) 5 5
  | 6, v, _ => v = .pointer (some ⟨bd, 0, none⟩)
  | 7, v, _ => ∃ k : Nat, k < 5 ∧ v = .int .i64 (k : Int)
  | 8, v, g => ∃ B k : Nat, g = some B ∧ k < 5 ∧ v = .pointer (some ⟨B, k, none⟩)
  | 9, v, _ => ∃ s : ByteArray, s.size ≤ maxLen ∧ v = .string s
  | 10, v, _ => ∃ k : Nat, k < N ∧ v = .pointer (some ⟨rb, k * 3, none⟩)
  | 11, v, _ => ∃ k : Nat, k < N ∧ v = .pointer (some ⟨rb, k * 3, none⟩)
  | _, _, _ => True
def VA1 (x bd rb cn _sb _cd N _M : Nat) : Nat → Value → Option Nat → Prop
  | 0, v, _ => v = .pointer (some ⟨x, 0, none⟩)
  | 1, v, _ => v = .slice (some ⟨rb, 0, none⟩) N cn
  | 2, v, _ => v = .pointer (some ⟨bd, 0, none⟩)
  | 3, v, _ => v = .int .i64 (N : Int)
  | 4, v, _ => ∃ k : Nat, k < N ∧ v = .int .i64 (k : Int)
  | 5, v, g => ∃ B, g = some B ∧ v = .slice (some ⟨B, 0, none⟩) 3 3
  | 6, v, _ => v = .pointer (some ⟨bd, 0, none⟩)
  | 7, v, _ => ∃ k : Nat, k < 3 ∧ v = .int .i64 (k : Int)
  | 8, v, g => ∃ B k : Nat, g = some B ∧ k < 3 ∧ v = .pointer (some ⟨B, k, none⟩)
  | 9, v, _ => ∃ z : Int, -9223372036854775808 ≤ z ∧ z ≤ 9223372036854775807 ∧ v = .int .i64 z
  | 10, v, _ => ∃ k : Nat, k < N ∧ v = .pointer (some ⟨rb, k * 3, none⟩)
  | 11, v, _ => ∃ k : Nat, k < N ∧ v = .pointer (some ⟨rb, k * 3 + 1, none⟩)
  | _, _, _ => True
def VA2 (x bd rb cn _sb _cd N _M : Nat) : Nat → Value → Option Nat → Prop
  | 0, v, _ => v = .pointer (some ⟨x, 0, none⟩)
  | 1, v, _ => v = .slice (some ⟨rb, 0, none⟩) N cn
  | 2, v, _ => v = .pointer (some ⟨bd, 0, none⟩)
  | 3, v, _ => v = .int .i64 (N : Int)
  | 4, v, _ => ∃ k : Nat, k < N ∧ v = .int .i64 (k : Int)
  | 5, v, g => ∃ B, g = some B ∧ v = .slice (some ⟨B, 0, none⟩) 3 3
  | 6, v, _ => v = .pointer (some ⟨bd, 0, none⟩)
  | 7, v, _ => ∃ k : Nat, k < 3 ∧ v = .int .i64 (k : Int)
  | 8, v, g => ∃ B k : Nat, g = some B ∧ k < 3 ∧ v = .pointer (some ⟨B, k, none⟩)
  | 9, v, _ => ∃ z : Int, -9223372036854775808 ≤ z ∧ z ≤ 9223372036854775807 ∧ v = .int .i64 z
  | 10, v, _ => ∃ k : Nat, k < N ∧ v = .pointer (some ⟨rb, k * 3, none⟩)
  | 11, v, _ => ∃ k : Nat, k < N ∧ v = .pointer (some ⟨rb, k * 3 + 2, none⟩)
  | _, _, _ => True
def VA3 (x bd _rb _cn sb cd _N M : Nat) : Nat → Value → Option Nat → Prop
  | 0, v, _ => v = .pointer (some ⟨x, 1, none⟩)
  | 1, v, _ => v = .slice (some ⟨sb, 0, none⟩) M cd
  | 2, v, _ => v = .pointer (some ⟨bd, 0, none⟩)
  | 3, v, _ => v = .int .i64 (M : Int)
  | 4, v, _ => ∃ k : Nat, k < M ∧ v = .int .i64 (k : Int)
  | 5, v, g => ∃ B, g = some B ∧ v = .slice (some ⟨B, 0, none⟩) 4 4
  | 6, v, _ => v = .pointer (some ⟨bd, 0, none⟩)
  | 7, v, _ => ∃ k : Nat, k < 4 ∧ v = .int .i64 (k : Int)
  | 8, v, g => ∃ B k : Nat, g = some B ∧ k < 4 ∧ v = .pointer (some ⟨B, k, none⟩)
  | 9, v, _ => ∃ s : ByteArray, s.size ≤ maxLen ∧ v = .string s
  | 10, v, _ => ∃ k : Nat, k < M ∧ v = .pointer (some ⟨sb, k * 5, none⟩)
  | 11, v, _ => ∃ k : Nat, k < M ∧ v = .pointer (some ⟨sb, k * 5, none⟩)
  | _, _, _ => True
def VA4 (x bd _rb _cn sb cd _N M : Nat) : Nat → Value → Option Nat → Prop
  | 0, v, _ => v = .pointer (some ⟨x, 1, none⟩)
  | 1, v, _ => v = .slice (some ⟨sb, 0, none⟩) M cd
  | 2, v, _ => v = .pointer (some ⟨bd, 0, none⟩)
  | 3, v, _ => v = .int .i64 (M : Int)
  | 4, v, _ => ∃ k : Nat, k < M ∧ v = .int .i64 (k : Int)
  | 5, v, _ => v = .pointer (some ⟨bd, 0, none⟩)
  | 6, v, _ => ∃ k : Nat, k < 9 ∧ v = .int .i64 (k : Int)
  | 7, v, _ => ∃ z : Int, -9223372036854775808 ≤ z ∧ z ≤ 9223372036854775807 ∧ v = .int .i64 z
  | 8, v, _ => ∃ k : Nat, k < M ∧ v = .pointer (some ⟨sb, k * 5, none⟩)
  | 9, v, _ => ∃ k : Nat, k < M ∧ v = .pointer (some ⟨sb, k * 5 + 1, none⟩)
  | _, _, _ => True
def VA5 (x bd _rb _cn sb cd N M : Nat) : Nat → Value → Option Nat → Prop
  | 0, v, _ => v = .pointer (some ⟨x, 1, none⟩)
  | 1, v, _ => v = .slice (some ⟨sb, 0, none⟩) M cd
  | 2, v, _ => v = .pointer (some ⟨bd, 0, none⟩)
  | 3, v, _ => v = .int .i64 (M : Int)
  | 4, v, _ => ∃ k : Nat, k < M ∧ v = .int .i64 (k : Int)
  | 5, v, _ => v = .pointer (some ⟨bd, 0, none⟩)
  | 6, v, _ => v = .int .i64 (N : Int)
  | 7, v, _ => v = .int .i64 ((N + 2 : Nat) : Int)
  | 8, v, _ => ∃ k : Nat, k < (N + 2) ∧ v = .int .i64 (k : Int)
  | 9, v, _ => ∃ z : Int, -9223372036854775808 ≤ z ∧ z ≤ 9223372036854775807 ∧ v = .int .i64 z
  | 10, v, _ => ∃ k : Nat, k < M ∧ v = .pointer (some ⟨sb, k * 5, none⟩)
  | 11, v, _ => ∃ k : Nat, k < M ∧ v = .pointer (some ⟨sb, k * 5 + 2, none⟩)
  | _, _, _ => True
def VA6 (x bd _rb _cn sb cd N M : Nat) : Nat → Value → Option Nat → Prop
  | 0, v, _ => v = .pointer (some ⟨x, 1, none⟩)
  | 1, v, _ => v = .slice (some ⟨sb, 0, none⟩) M cd
  | 2, v, _ => v = .pointer (some ⟨bd, 0, none⟩)
  | 3, v, _ => v = .int .i64 (M : Int)
  | 4, v, _ => ∃ k : Nat, k < M ∧ v = .int .i64 (k : Int)
  | 5, v, _ => v = .pointer (some ⟨bd, 0, none⟩)
  | 6, v, _ => v = .int .i64 (N : Int)
  | 7, v, _ => v = .int .i64 ((N + 2 : Nat) : Int)
  | 8, v, _ => ∃ k : Nat, k < (N + 2) ∧ v = .int .i64 (k : Int)
  | 9, v, _ => ∃ z : Int, -9223372036854775808 ≤ z ∧ z ≤ 9223372036854775807 ∧ v = .int .i64 z
  | 10, v, _ => ∃ k : Nat, k < M ∧ v = .pointer (some ⟨sb, k * 5, none⟩)
  | 11, v, _ => ∃ k : Nat, k < M ∧ v = .pointer (some ⟨sb, k * 5 + 3, none⟩)
  | _, _, _ => True
def VA7 (x bd _rb _cn sb cd _N M : Nat) : Nat → Value → Option Nat → Prop
  | 0, v, _ => v = .pointer (some ⟨x, 1, none⟩)
  | 1, v, _ => v = .slice (some ⟨sb, 0, none⟩) M cd
  | 2, v, _ => v = .pointer (some ⟨bd, 0, none⟩)
  | 3, v, _ => v = .int .i64 (M : Int)
  | 4, v, _ => ∃ k : Nat, k < M ∧ v = .int .i64 (k : Int)
  | 5, v, g => ∃ B, g = some B ∧ v = .slice (some ⟨B, 0, none⟩) 3 3
  | 6, v, _ => v = .pointer (some ⟨bd, 0, none⟩)
  | 7, v, _ => ∃ k : Nat, k < 3 ∧ v = .int .i64 (k : Int)
  | 8, v, g => ∃ B k : Nat, g = some B ∧ k < 3 ∧ v = .pointer (some ⟨B, k, none⟩)
  | 9, v, _ => ∃ z : Int, -9223372036854775808 ≤ z ∧ z ≤ 9223372036854775807 ∧ v = .int .i64 z
  | 10, v, _ => ∃ k : Nat, k < M ∧ v = .pointer (some ⟨sb, k * 5, none⟩)
  | 11, v, _ => ∃ k : Nat, k < M ∧ v = .pointer (some ⟨sb, k * 5 + 4, none⟩)
  | _, _, _ => True

theorem hown_is {α : Type} {T k : Nat} {enc : α → List Value} {w : World} {base n : Nat} {v : Value} {xs : List α} (h : w.ownsRow base T k v (0 + n) ([] ++ flat enc xs)) (hn : xs.length = n) : AggsAt T k enc w base v xs := by
  subst hn
  rw [Nat.zero_add, List.nil_append] at h; exact h
theorem one_of {α : Type} {T k : Nat} {enc : α → List Value} {w : World} {base : Nat} {v : Value} {xs : List α} (h : AggsAt T k enc w base v xs) : v.oneCell' = true := by
  rcases h.2 with ⟨h, _⟩ | ⟨g, cap, cur, h, _⟩ <;> rw [h] <;> rfl
set_option maxRecDepth 100000 in
set_option maxHeartbeats 8000000 in
theorem odd_is {w0 w : World} {a : Option Addr} {len cap bd : Nat} {zs : List Int} (g : Game w0 w bd a len cap) (hr : IsRow .i64 w0 a len cap zs) (an bn : Option Addr) (N c M d : Nat) (ns : List Nd) (ds : List Dv) (h : NetIn w an bn N c M d ns ds)
    (hN1 : 1 ≤ N) (hN2 : N ≤ 30) (hM1 : 1 ≤ M) (hM2 : M ≤ 60) (k1 : ∀ p, an = some p → p.block ≠ bd) (k2 : ∀ p, bn = some p → p.block ≠ bd) :
    Calls Tryd.prog 14 #[.pointer (some ⟨bd, 0, none⟩), .agg #[.slice an N c, .slice bn M d]] w (OddPost w0 w a len cap bd) := by
  obtain ⟨i0, hi, hz0, hz1, hz2⟩ := info_parts infoNd
  obtain ⟨j0, ji, jz0, jz1, jz2⟩ := info_parts infoDv
  obtain ⟨g1, o1, rfl, hg1, hc1⟩ := h.nin.some (by rw [h.nlen]; omega)
  obtain ⟨g2, o2, rfl, hg2, hc2⟩ := h.din.some (by rw [h.dlen]; omega)
  have G1 := Lib.hid hg1
  have G2 := Lib.hid hg2
  have G1b : Hid (some g1 ≠ some bd) := fun e => k1 _ rfl (by injection e)
  have G2b : Hid (some g2 ≠ some bd) := fun e => k2 _ rfl (by injection e)
  have HC1 := Lib.hid hc1
  have HC2 := Lib.hid hc2
  have LN : Hid ((flat encNd ns).length = N * 3) := by show _ = _; rw [flat_length encNd_len, h.nlen]
  have LD : Hid ((flat encDv ds).length = M * 5) := by show _ = _; rw [flat_length encDv_len, h.dlen]
  have NS := Lib.hid h.nlen
  have DS := Lib.hid h.dlen
  have NZ := Lib.hid h.nsz
  have DF := Lib.hid h.dfit
  have HM := Lib.hid g.mine
  have HR := Lib.hid hr
  obtain ⟨x, hx⟩ : ∃ x, w.heap.size = x := ⟨_, rfl⟩
  have HX := Lib.hid hx
  have HL : Hid (bd < x) := by have := g.lt; rw [hx] at this; exact this
  have HS0 : Hid (S1 w0 w a len cap bd x (.slice (some ⟨g1, o1, none⟩) N c) (.slice (some ⟨g2, o2, none⟩) M d) ns ds (fun _ => false) ((w.alloc (.cells #[.slice (some ⟨g1, o1, none⟩) N c, .slice (some ⟨g2, o2, none⟩) M d] 26)).alloc (.cells #[.slice none 0 0, .slice none 0 0] 26)).drew) := by
    refine ⟨((g.alloc _).alloc _).drew, gb_drew (grown_alloc (grown_alloc (gb_refl w _) _) _), by show x + 2 ≤ (World.alloc _ _).heap.size; simp; omega, ?_, ?_⟩
    · refine ⟨26, .slice none 0 0, .slice none 0 0, ?_⟩
      have := heap_alloc_new (w.alloc (.cells #[.slice (some ⟨g1, o1, none⟩) N c, .slice (some ⟨g2, o2, none⟩) M d] 26)) (.cells #[.slice none 0 0, .slice none 0 0] 26)
      rw [World.size_alloc, hx] at this
      exact this
    · refine ⟨26, .slice (some ⟨g1, o1, none⟩) N c, .slice (some ⟨g2, o2, none⟩) M d, ?_, fun _ => rfl, fun _ => rfl, (fun h => by cases h), (fun h => by cases h)⟩
      have := dev1 w #[.slice (some ⟨g1, o1, none⟩) N c, .slice (some ⟨g2, o2, none⟩) M d] 26 (.cells #[.slice none 0 0, .slice none 0 0] 26) (.cells #[] 0)
      rw [hx] at this
      rw [← this]
      show _ = (World.alloc _ _).heap[x]?
      rw [(below_box ((w.alloc _).alloc _) (.cells #[] 0)).block x (by simp; omega)]
      rfl
  clear hg1 hg2 hc1 hc2 k1 k2 g hr h hx
  go_enter Tryd.func14, Tryd.ntmps14
  go_wp2_with fail
  rw [HX.out]
  refine inv.wp_region_inv (S1 w0 w a len cap bd x (.slice (some ⟨g1, o1, none⟩) N c) (.slice (some ⟨g2, o2, none⟩) M d) ns ds) (D1 x (.slice (some ⟨g1, o1, none⟩) N c) (.slice (some ⟨g2, o2, none⟩) M d) ns ds) (by kernel_rfl) (by kernel_rfl) HS0.out ?steps ?rest
  case steps =>
    refine ⟨fun vs W done hS hD hno K hK => ?_, fun vs W done hS hD hno K hK => ?_, fun vs W done hS hD hno K hK => ?_, fun vs W done hS hD hno K hK => ?_, fun vs W done hS hD hno K hK => ?_, fun vs W done hS hD hno K hK => ?_, fun vs W done hS hD hno K hK => ?_, fun vs W done hS hD hno K hK => ?_, fun vs W done hS hD hno K hK => ?_, fun vs W done hS hD hno K hK => ?_, trivial⟩
    · simp only [inv.dstsL, inv.putT, Nat.reduceAdd, List.set_cons_zero, List.set_cons_succ]
      go_simp
      exact hK _ _ _ (by simp only [inv.dstsL, inv.putT, Nat.reduceAdd, List.set_cons_zero, List.set_cons_succ]; (try rfl)) (hS.mark 0 (by decide) (by decide)) (by first | rfl | trivial) (fun _ _ h => h)
    · simp only [inv.dstsL, inv.putT, Nat.reduceAdd, List.set_cons_zero, List.set_cons_succ]
      have h0 : vs 0 = .pointer (some ⟨x, 0, none⟩) := hD 0 (by kernel_rfl)
      obtain ⟨T, p, q, e, e1, e2, -, -⟩ := hS.net
      obtain rfl : p = .slice (some ⟨g1, o1, none⟩) N c := e1 (hno 7 (by kernel_rfl))
      have c0 := (cell_at e 0).1
      rw [h0]
      go_simp
      exact hK _ _ _ (by simp only [inv.dstsL, inv.putT, Nat.reduceAdd, List.set_cons_zero, List.set_cons_succ, h0]; (try rfl)) (hS.mark 1 (by decide) (by decide)) (by first | rfl | trivial) (fun _ _ h => h)
    · simp only [inv.dstsL, inv.putT, Nat.reduceAdd, List.set_cons_zero, List.set_cons_succ]
      have h1 : vs 1 = .slice (some ⟨g1, o1, none⟩) N c := hD 1 (by kernel_rfl)
      refine step_append_own (by rfl) (.const (.slice none 0 0)) (.tmp 9) 23 (by rfl) (x + 2) 51 i0 _ 3 32 Tryd.underlying23 hi hz0 hz1 hz2 rfl (by decide) (.slice none 0 0) 0 [] (by rfl) (World.ownsRow_nil _ _ _ _) ⟨g1, o1, none⟩ N c (flat encNd ns) (by rw [h1]; rfl) LN.out (news_cells (CellsAt.keep1 HC1.out hS.grown G1.out G1b.out)) (flat_oneCell encNd_one ns) (by unfold maxLen; omega) (by omega) hS.size ?_
      intro v' w' hown hg _
      exact hK _ _ _ (by simp only [inv.dstsL, inv.putT, Nat.reduceAdd, List.set_cons_zero, List.set_cons_succ]; (try rfl)) ((hS.kept hg HL.out).mark 2 (by decide) (by decide)) (show AggsAt _ _ _ _ _ _ _ from hown_is hown NS.out) (D1.kept hg (fun k hk => by cases hk))
    · simp only [inv.dstsL, inv.putT, Nat.reduceAdd, List.set_cons_zero, List.set_cons_succ]
      go_simp
      exact hK _ _ _ (by simp only [inv.dstsL, inv.putT, Nat.reduceAdd, List.set_cons_zero, List.set_cons_succ]; (try rfl)) (hS.mark 3 (by decide) (by decide)) (by first | rfl | trivial) (fun _ _ h => h)
    · simp only [inv.dstsL, inv.putT, Nat.reduceAdd, List.set_cons_zero, List.set_cons_succ]
      have h3 : vs 3 = .pointer (some ⟨x, 1, none⟩) := hD 3 (by kernel_rfl)
      obtain ⟨T, p, q, e, e1, e2, -, -⟩ := hS.net
      obtain rfl : q = .slice (some ⟨g2, o2, none⟩) M d := e2 (hno 9 (by kernel_rfl))
      have c0 := (cell_at e 1).1
      rw [h3]
      go_simp
      exact hK _ _ _ (by simp only [inv.dstsL, inv.putT, Nat.reduceAdd, List.set_cons_zero, List.set_cons_succ, h3]; (try rfl)) (hS.mark 4 (by decide) (by decide)) (by first | rfl | trivial) (fun _ _ h => h)
    · simp only [inv.dstsL, inv.putT, Nat.reduceAdd, List.set_cons_zero, List.set_cons_succ]
      have h4 : vs 4 = .slice (some ⟨g2, o2, none⟩) M d := hD 4 (by kernel_rfl)
      refine step_append_own (by rfl) (.const (.slice none 0 0)) (.tmp 12) 24 (by rfl) (x + 2) 47 j0 _ 5 48 Tryd.underlying24 ji jz0 jz1 jz2 rfl (by decide) (.slice none 0 0) 0 [] (by rfl) (World.ownsRow_nil _ _ _ _) ⟨g2, o2, none⟩ M d (flat encDv ds) (by rw [h4]; rfl) LD.out (news_cells (CellsAt.keep1 HC2.out hS.grown G2.out G2b.out)) (flat_oneCell encDv_one ds) (by unfold maxLen; omega) (by omega) hS.size ?_
      intro v' w' hown hg _
      exact hK _ _ _ (by simp only [inv.dstsL, inv.putT, Nat.reduceAdd, List.set_cons_zero, List.set_cons_succ]; (try rfl)) ((hS.kept hg HL.out).mark 5 (by decide) (by decide)) (show AggsAt _ _ _ _ _ _ _ from hown_is hown DS.out) (D1.kept hg (fun k hk => by cases hk))
    · simp only [inv.dstsL, inv.putT, Nat.reduceAdd, List.set_cons_zero, List.set_cons_succ]
      go_simp
      exact hK _ _ _ (by simp only [inv.dstsL, inv.putT, Nat.reduceAdd, List.set_cons_zero, List.set_cons_succ]; (try rfl)) (hS.mark 6 (by decide) (by decide)) (by first | rfl | trivial) (fun _ _ h => h)
    · simp only [inv.dstsL, inv.putT, Nat.reduceAdd, List.set_cons_zero, List.set_cons_succ]
      have h6 : vs 6 = .pointer (some ⟨x, 0, none⟩) := hD 6 (by kernel_rfl)
      have h2 : AggsAt 51 3 encNd W (x + 2) (vs 2) ns := by exact hD 2 (by kernel_rfl)
      obtain ⟨T, p, q, e, -⟩ := hS.net
      obtain ⟨c0, f0⟩ := cell_at e 0
      obtain ⟨a9, c9, h102, -⟩ := AggsAt.length h2 encNd_len
      rw [h102] at h2
      rw [h6, h102]
      go_simp
      exact hK undef _ _ (by simp only [inv.dstsL, inv.putT, Nat.reduceAdd, List.set_cons_zero, List.set_cons_succ, h6, h102]; (try rfl)) (hS.set0 HL.out HX.out HM.out h2) (by first | rfl | trivial) (D1.kept (gb_set _ (gb_refl W (some x))) (fun k hk => by cases hk; omega))
    · simp only [inv.dstsL, inv.putT, Nat.reduceAdd, List.set_cons_zero, List.set_cons_succ]
      go_simp
      exact hK _ _ _ (by simp only [inv.dstsL, inv.putT, Nat.reduceAdd, List.set_cons_zero, List.set_cons_succ]; (try rfl)) (hS.mark 8 (by decide) (by decide)) (by first | rfl | trivial) (fun _ _ h => h)
    · simp only [inv.dstsL, inv.putT, Nat.reduceAdd, List.set_cons_zero, List.set_cons_succ]
      have h8 : vs 8 = .pointer (some ⟨x, 1, none⟩) := hD 8 (by kernel_rfl)
      have h5 : AggsAt 47 5 encDv W (x + 2) (vs 5) ds := by exact hD 5 (by kernel_rfl)
      obtain ⟨T, p, q, e, -⟩ := hS.net
      obtain ⟨c0, f0⟩ := cell_at e 1
      obtain ⟨a9, c9, h105, -⟩ := AggsAt.length h5 encDv_len
      rw [h105] at h5
      rw [h8, h105]
      go_simp
      exact hK undef _ _ (by simp only [inv.dstsL, inv.putT, Nat.reduceAdd, List.set_cons_zero, List.set_cons_succ, h8, h105]; (try rfl)) (hS.set1 HL.out HX.out HM.out h5) (by first | rfl | trivial) (D1.kept (gb_set _ (gb_refl W (some x))) (fun k hk => by cases hk; omega))
  case rest =>
    intro vs W done hdone hS hD
    have h0 : vs 0 = .pointer (some ⟨x, 0, none⟩) := hD 0 (by decide)
    have h1 : vs 1 = .slice (some ⟨g1, o1, none⟩) N c := hD 1 (by decide)
    have h2 : AggsAt 51 3 encNd W (x + 2) (vs 2) ns := hD 2 (by decide)
    have h3 : vs 3 = .pointer (some ⟨x, 1, none⟩) := hD 3 (by decide)
    have h4 : vs 4 = .slice (some ⟨g2, o2, none⟩) M d := hD 4 (by decide)
    have h5 : AggsAt 47 5 encDv W (x + 2) (vs 5) ds := hD 5 (by decide)
    have h6 : vs 6 = .pointer (some ⟨x, 0, none⟩) := hD 6 (by decide)
    have h8 : vs 8 = .pointer (some ⟨x, 1, none⟩) := hD 8 (by decide)
    simp only [inv.dstsL, inv.putT, Nat.reduceAdd, List.set_cons_zero, List.set_cons_succ]
    obtain ⟨T, vn, vd, e, -, -, e3, e4⟩ := hS.net
    have e3 := e3 (hdone 7 (by decide))
    have e4 := e4 (hdone 9 (by decide))
    have hOS : OS w0 w W a len cap bd x vn vd N M := ⟨hS.game, hS.grown, HX.out, HL.out, hS.size, ⟨T, e⟩, hS.res, ns, ds, NS.out, DS.out, e3, e4, NZ.out, DF.out⟩
    obtain ⟨rb, cn, sb, cd, rfl, rfl, hrb, hsb, hcn, hcn2, hcd, hcd2, hrl, hsl⟩ := hOS.shapes hN1 hM1
    have HOS := Lib.hid hOS
    obtain ⟨c0, c1, -, -⟩ := hOS.cells
    generalize vs 0 = y0, vs 1 = y1, vs 2 = y2, vs 3 = y3, vs 4 = y4, vs 5 = y5, vs 6 = y6, vs 8 = y8 at *
    clear h0 h1 h2 h3 h4 h5 h6 h8 e e3 e4 hS hD hdone hOS HS0 LN LD HC1 HC2 G1 G2 G1b G2b hz0 hz1 hz2 hi
    unfold maxLen at hcn2 hcd2
    go_wp2
    go_quiet (fail)
    go_wp2_with fail
    have NX := Lib.hid ((HOS.out.game.drewN nq).next HR.out 9 (by omega))
    refine NX.out.mono ?_; rintro e W2 ⟨r, rfl, r0, r1, hg2, hgb2⟩
    have OS2 := Lib.hid (HOS.out.kept ((gb_drewN nq (gb_refl W (some bd))).andThen hgb2 (fun j hj => .inr hj)) hg2)
    clear hg2 hgb2 NX HOS c0 c1
    rw [show max (9 : Int) 1 = 9 from rfl] at r1
    have hr : r = 0 ∨ r = 1 ∨ r = 2 ∨ r = 3 ∨ r = 4 ∨ r = 5 ∨ r = 6 ∨ r = 7 ∨ r = 8 := by omega
    clear r0 r1
    rcases hr with rfl | rfl | rfl | rfl | rfl | rfl | rfl | rfl | rfl
    · go_wp2_with fail
      refine inv.wp_region_inv (fun _ W => OS w0 w W a len cap bd x (.slice (some ⟨rb, 0, none⟩) N cn) (.slice (some ⟨sb, 0, none⟩) M cd) N M) (DA (VA0 x bd rb cn sb cd N M) bd rb sb #[.string ⟨#[]⟩, .string ⟨#[49, 65]⟩, .string ⟨#[78, 48, 48]⟩, .string ⟨#[97, 45, 98]⟩, .string ⟨#[65, 66, 67, 68, 69, 70, 71, 72, 73, 74, 75, 76, 77]⟩] 9) (by kernel_rfl) (by kernel_rfl) OS2.out.drew ?steps ?rest
      case steps =>
        refine ⟨fun vs W done hS hD hno K hK => ?_, fun vs W done hS hD hno K hK => ?_, fun vs W done hS hD hno K hK => ?_, fun vs W done hS hD hno K hK => ?_, fun vs W done hS hD hno K hK => ?_, fun vs W done hS hD hno K hK => ?_, fun vs W done hS hD hno K hK => ?_, fun vs W done hS hD hno K hK => ?_, fun vs W done hS hD hno K hK => ?_, fun vs W done hS hD hno K hK => ?_, fun vs W done hS hD hno K hK => ?_, fun vs W done hS hD hno K hK => ?_, fun vs W done hS hD hno K hK => ?_, trivial⟩
        · simp only [inv.dstsL, inv.putT, Nat.reduceAdd, List.set_cons_zero, List.set_cons_succ]
          go_simp
          exact hK _ _ _ (by simp only [inv.dstsL, inv.putT, Nat.reduceAdd, List.set_cons_zero, List.set_cons_succ]; (try rfl)) hS (⟨none, rfl, trivial⟩) (fun _ _ h => h)
        · simp only [inv.dstsL, inv.putT, Nat.reduceAdd, List.set_cons_zero, List.set_cons_succ]
          have h0 : vs 0 = .pointer (some ⟨x, 0, none⟩) := (hD 0 (by kernel_rfl)).elim fun _ h => h.1
          obtain ⟨c0, c1, -, -⟩ := hS.cells
          rw [h0]
          go_simp
          exact hK _ _ _ (by simp only [inv.dstsL, inv.putT, Nat.reduceAdd, List.set_cons_zero, List.set_cons_succ, h0]; (try rfl)) hS (⟨none, rfl, trivial⟩) (fun _ _ h => h)
        · simp only [inv.dstsL, inv.putT, Nat.reduceAdd, List.set_cons_zero, List.set_cons_succ]
          go_simp
          exact hK _ _ _ (by simp only [inv.dstsL, inv.putT, Nat.reduceAdd, List.set_cons_zero, List.set_cons_succ]; (try rfl)) hS (⟨none, rfl, trivial⟩) (fun _ _ h => h)
        · simp only [inv.dstsL, inv.putT, Nat.reduceAdd, List.set_cons_zero, List.set_cons_succ]
          go_simp
          exact hK _ _ _ (by simp only [inv.dstsL, inv.putT, Nat.reduceAdd, List.set_cons_zero, List.set_cons_succ]; (try rfl)) hS (⟨none, rfl, trivial⟩) (fun _ _ h => h)
        · simp only [inv.dstsL, inv.putT, Nat.reduceAdd, List.set_cons_zero, List.set_cons_succ]
          have h2 : vs 2 = .pointer (some ⟨bd, 0, none⟩) := (hD 2 (by kernel_rfl)).elim fun _ h => h.1
          have h3 : vs 3 = .int .i64 ((N : Nat) : Int) := (hD 3 (by kernel_rfl)).elim fun _ h => h.1
          rw [h2, h3]
          go_simp
          refine (hS.game.next HR.out ((N : Nat) : Int) (by omega)).mono ?_; rintro e W2 ⟨r, rfl, r0, r1, hg2, hgb2⟩
          obtain ⟨k, rfl⟩ : ∃ k : Nat, r = k := ⟨r.toNat, by omega⟩
          have hk : k < N := by omega
          clear r0 r1
          go_wp2_with fail
          exact hK _ _ _ (by simp only [inv.dstsL, inv.putT, Nat.reduceAdd, List.set_cons_zero, List.set_cons_succ, h2, h3]; (try rfl)) (hS.kept hgb2 hg2) (⟨none, ⟨k, hk, rfl⟩, trivial⟩) (DA.kept (keep_gb hgb2))
        · simp only [inv.dstsL, inv.putT, Nat.reduceAdd, List.set_cons_zero, List.set_cons_succ]
          go_simp
          exact hK _ _ _ (by simp only [inv.dstsL, inv.putT, Nat.reduceAdd, List.set_cons_zero, List.set_cons_succ]; (try rfl)) (hS.alloc _) (⟨some W.heap.size, ⟨_, rfl, rfl⟩, heap_alloc_new _ _, hS.rlt⟩) (DA.kept (keep_new _))
        · simp only [inv.dstsL, inv.putT, Nat.reduceAdd, List.set_cons_zero, List.set_cons_succ]
          go_simp
          exact hK _ _ _ (by simp only [inv.dstsL, inv.putT, Nat.reduceAdd, List.set_cons_zero, List.set_cons_succ]; (try rfl)) hS (⟨none, rfl, trivial⟩) (fun _ _ h => h)
        · simp only [inv.dstsL, inv.putT, Nat.reduceAdd, List.set_cons_zero, List.set_cons_succ]
          have h6 : vs 6 = .pointer (some ⟨bd, 0, none⟩) := (hD 6 (by kernel_rfl)).elim fun _ h => h.1
          rw [h6]
          go_simp
          refine (hS.game.next HR.out ((5 : Nat) : Int) (by omega)).mono ?_; rintro e W2 ⟨r, rfl, r0, r1, hg2, hgb2⟩
          obtain ⟨k, rfl⟩ : ∃ k : Nat, r = k := ⟨r.toNat, by omega⟩
          have hk : k < 5 := by omega
          clear r0 r1
          go_wp2_with fail
          exact hK _ _ _ (by simp only [inv.dstsL, inv.putT, Nat.reduceAdd, List.set_cons_zero, List.set_cons_succ, h6]; (try rfl)) (hS.kept hgb2 hg2) (⟨none, ⟨k, hk, rfl⟩, trivial⟩) (DA.kept (keep_gb hgb2))
        · simp only [inv.dstsL, inv.putT, Nat.reduceAdd, List.set_cons_zero, List.set_cons_succ]
          obtain ⟨g5, ⟨B, rfl, h5⟩, b5⟩ := hD 5 (by kernel_rfl)
          obtain ⟨g7, ⟨k, hk, h7⟩, b7⟩ := hD 7 (by kernel_rfl)
          have hk2 : (k : Int) < 5 := by omega
          rw [h5, h7]
          go_simp
          exact hK _ _ _ (by simp only [inv.dstsL, inv.putT, Nat.reduceAdd, List.set_cons_zero, List.set_cons_succ, h5, h7]; (try rfl)) hS (⟨some B, ⟨B, k, rfl, hk, rfl⟩, b5⟩) (fun _ _ h => h)
        · simp only [inv.dstsL, inv.putT, Nat.reduceAdd, List.set_cons_zero, List.set_cons_succ]
          obtain ⟨g8, ⟨B, k, rfl, hk, h8⟩, b8⟩ := hD 8 (by kernel_rfl)
          obtain ⟨s, hs, hs2⟩ : ∃ s : ByteArray, (#[.string ⟨#[]⟩, .string ⟨#[49, 65]⟩, .string ⟨#[78, 48, 48]⟩, .string ⟨#[97, 45, 98]⟩, .string ⟨#[65, 66, 67, 68, 69, 70, 71, 72, 73, 74, 75, 76, 77]⟩] : Array Value)[k]? = some (.string s) ∧ s.size ≤ maxLen := by
            rcases (show k = 0 ∨ k = 1 ∨ k = 2 ∨ k = 3 ∨ k = 4 by omega) with rfl | rfl | rfl | rfl | rfl
            all_goals exact ⟨_, rfl, by decide⟩
          have c8 := (cell_at b8.1 k).1.trans hs
          rw [h8]
          go_simp
          exact hK _ _ _ (by simp only [inv.dstsL, inv.putT, Nat.reduceAdd, List.set_cons_zero, List.set_cons_succ, h8]; (try rfl)) hS (⟨none, ⟨s, hs2, rfl⟩, trivial⟩) (fun _ _ h => h)
        · simp only [inv.dstsL, inv.putT, Nat.reduceAdd, List.set_cons_zero, List.set_cons_succ]
          have h1 : vs 1 = .slice (some ⟨rb, 0, none⟩) N cn := (hD 1 (by kernel_rfl)).elim fun _ h => h.1
          obtain ⟨g4, ⟨k, hk, h4⟩, b4⟩ := hD 4 (by kernel_rfl)
          rw [h1, h4]
          go_simp
          exact hK _ _ _ (by simp only [inv.dstsL, inv.putT, Nat.reduceAdd, List.set_cons_zero, List.set_cons_succ, h1, h4]; (try rfl)) hS (⟨none, ⟨k, hk, rfl⟩, trivial⟩) (fun _ _ h => h)
        · simp only [inv.dstsL, inv.putT, Nat.reduceAdd, List.set_cons_zero, List.set_cons_succ]
          obtain ⟨g10, ⟨k, hk, h10⟩, b10⟩ := hD 10 (by kernel_rfl)
          rw [h10]
          go_simp
          exact hK _ _ _ (by simp only [inv.dstsL, inv.putT, Nat.reduceAdd, List.set_cons_zero, List.set_cons_succ, h10]; (try rfl)) hS (⟨none, ⟨k, hk, rfl⟩, trivial⟩) (fun _ _ h => h)
        · simp only [inv.dstsL, inv.putT, Nat.reduceAdd, List.set_cons_zero, List.set_cons_succ]
          obtain ⟨g11, ⟨k, hk, h11⟩, b11⟩ := hD 11 (by kernel_rfl)
          obtain ⟨g9, ⟨s, hs, h9⟩, b9⟩ := hD 9 (by kernel_rfl)
          obtain ⟨u, cu, fu⟩ := hS.rowN k hk 0 (by decide)
          rw [Nat.add_zero] at cu fu
          rw [h11, h9]
          go_simp
          exact hK undef _ _ (by simp only [inv.dstsL, inv.putT, Nat.reduceAdd, List.set_cons_zero, List.set_cons_succ, h11, h9]; (try rfl)) (hS.setN k hk 0 (by decide) (.string s) (fun z => { z with nm := s }) (fun _ => rfl) (fun y hy => hs)) (⟨none, trivial, trivial⟩) (DA.kept (keep_set _ (.inl rfl)))
      case rest =>
        intro vs W3 done hdone hS hD
        clear hD hdone
        simp only [inv.dstsL, inv.putT, Nat.reduceAdd, List.set_cons_zero, List.set_cons_succ]
        generalize vs 0 = y0, vs 1 = y1, vs 2 = y2, vs 3 = y3, vs 4 = y4, vs 5 = y5, vs 6 = y6, vs 7 = y7, vs 8 = y8, vs 9 = y9, vs 10 = y10, vs 11 = y11
        have HOS := Lib.hid hS
        obtain ⟨c0, c1, -, -⟩ := hS.cells
        obtain ⟨p, q, r0, r1, f0, f1⟩ := hS.rcells
        have PO := Lib.hid (odd_end hS)
        clear hS
        go_wp2
        exact bodyPost_ret (v := .agg #[.slice (some ⟨rb, 0, none⟩) N cn, .slice (some ⟨sb, 0, none⟩) M cd]) (by simp [results, Tryd.results14, go_sem, PO.out.1, PO.out.2.1]) rfl PO.out.2.2
    · go_wp2_with fail
      refine inv.wp_region_inv (fun _ W => OS w0 w W a len cap bd x (.slice (some ⟨rb, 0, none⟩) N cn) (.slice (some ⟨sb, 0, none⟩) M cd) N M) (DA (VA1 x bd rb cn sb cd N M) bd rb sb #[.int .i64 (-1), .int .i64 1048576, .int .i64 1048577] 3) (by kernel_rfl) (by kernel_rfl) OS2.out.drew ?steps ?rest
      case steps =>
        refine ⟨fun vs W done hS hD hno K hK => ?_, fun vs W done hS hD hno K hK => ?_, fun vs W done hS hD hno K hK => ?_, fun vs W done hS hD hno K hK => ?_, fun vs W done hS hD hno K hK => ?_, fun vs W done hS hD hno K hK => ?_, fun vs W done hS hD hno K hK => ?_, fun vs W done hS hD hno K hK => ?_, fun vs W done hS hD hno K hK => ?_, fun vs W done hS hD hno K hK => ?_, fun vs W done hS hD hno K hK => ?_, fun vs W done hS hD hno K hK => ?_, fun vs W done hS hD hno K hK => ?_, trivial⟩
        · simp only [inv.dstsL, inv.putT, Nat.reduceAdd, List.set_cons_zero, List.set_cons_succ]
          go_simp
          exact hK _ _ _ (by simp only [inv.dstsL, inv.putT, Nat.reduceAdd, List.set_cons_zero, List.set_cons_succ]; (try rfl)) hS (⟨none, rfl, trivial⟩) (fun _ _ h => h)
        · simp only [inv.dstsL, inv.putT, Nat.reduceAdd, List.set_cons_zero, List.set_cons_succ]
          have h0 : vs 0 = .pointer (some ⟨x, 0, none⟩) := (hD 0 (by kernel_rfl)).elim fun _ h => h.1
          obtain ⟨c0, c1, -, -⟩ := hS.cells
          rw [h0]
          go_simp
          exact hK _ _ _ (by simp only [inv.dstsL, inv.putT, Nat.reduceAdd, List.set_cons_zero, List.set_cons_succ, h0]; (try rfl)) hS (⟨none, rfl, trivial⟩) (fun _ _ h => h)
        · simp only [inv.dstsL, inv.putT, Nat.reduceAdd, List.set_cons_zero, List.set_cons_succ]
          go_simp
          exact hK _ _ _ (by simp only [inv.dstsL, inv.putT, Nat.reduceAdd, List.set_cons_zero, List.set_cons_succ]; (try rfl)) hS (⟨none, rfl, trivial⟩) (fun _ _ h => h)
        · simp only [inv.dstsL, inv.putT, Nat.reduceAdd, List.set_cons_zero, List.set_cons_succ]
          go_simp
          exact hK _ _ _ (by simp only [inv.dstsL, inv.putT, Nat.reduceAdd, List.set_cons_zero, List.set_cons_succ]; (try rfl)) hS (⟨none, rfl, trivial⟩) (fun _ _ h => h)
        · simp only [inv.dstsL, inv.putT, Nat.reduceAdd, List.set_cons_zero, List.set_cons_succ]
          have h2 : vs 2 = .pointer (some ⟨bd, 0, none⟩) := (hD 2 (by kernel_rfl)).elim fun _ h => h.1
          have h3 : vs 3 = .int .i64 ((N : Nat) : Int) := (hD 3 (by kernel_rfl)).elim fun _ h => h.1
          rw [h2, h3]
          go_simp
          refine (hS.game.next HR.out ((N : Nat) : Int) (by omega)).mono ?_; rintro e W2 ⟨r, rfl, r0, r1, hg2, hgb2⟩
          obtain ⟨k, rfl⟩ : ∃ k : Nat, r = k := ⟨r.toNat, by omega⟩
          have hk : k < N := by omega
          clear r0 r1
          go_wp2_with fail
          exact hK _ _ _ (by simp only [inv.dstsL, inv.putT, Nat.reduceAdd, List.set_cons_zero, List.set_cons_succ, h2, h3]; (try rfl)) (hS.kept hgb2 hg2) (⟨none, ⟨k, hk, rfl⟩, trivial⟩) (DA.kept (keep_gb hgb2))
        · simp only [inv.dstsL, inv.putT, Nat.reduceAdd, List.set_cons_zero, List.set_cons_succ]
          go_simp
          exact hK _ _ _ (by simp only [inv.dstsL, inv.putT, Nat.reduceAdd, List.set_cons_zero, List.set_cons_succ]; (try rfl)) (hS.alloc _) (⟨some W.heap.size, ⟨_, rfl, rfl⟩, heap_alloc_new _ _, hS.rlt⟩) (DA.kept (keep_new _))
        · simp only [inv.dstsL, inv.putT, Nat.reduceAdd, List.set_cons_zero, List.set_cons_succ]
          go_simp
          exact hK _ _ _ (by simp only [inv.dstsL, inv.putT, Nat.reduceAdd, List.set_cons_zero, List.set_cons_succ]; (try rfl)) hS (⟨none, rfl, trivial⟩) (fun _ _ h => h)
        · simp only [inv.dstsL, inv.putT, Nat.reduceAdd, List.set_cons_zero, List.set_cons_succ]
          have h6 : vs 6 = .pointer (some ⟨bd, 0, none⟩) := (hD 6 (by kernel_rfl)).elim fun _ h => h.1
          rw [h6]
          go_simp
          refine (hS.game.next HR.out ((3 : Nat) : Int) (by omega)).mono ?_; rintro e W2 ⟨r, rfl, r0, r1, hg2, hgb2⟩
          obtain ⟨k, rfl⟩ : ∃ k : Nat, r = k := ⟨r.toNat, by omega⟩
          have hk : k < 3 := by omega
          clear r0 r1
          go_wp2_with fail
          exact hK _ _ _ (by simp only [inv.dstsL, inv.putT, Nat.reduceAdd, List.set_cons_zero, List.set_cons_succ, h6]; (try rfl)) (hS.kept hgb2 hg2) (⟨none, ⟨k, hk, rfl⟩, trivial⟩) (DA.kept (keep_gb hgb2))
        · simp only [inv.dstsL, inv.putT, Nat.reduceAdd, List.set_cons_zero, List.set_cons_succ]
          obtain ⟨g5, ⟨B, rfl, h5⟩, b5⟩ := hD 5 (by kernel_rfl)
          obtain ⟨g7, ⟨k, hk, h7⟩, b7⟩ := hD 7 (by kernel_rfl)
          have hk2 : (k : Int) < 3 := by omega
          rw [h5, h7]
          go_simp
          exact hK _ _ _ (by simp only [inv.dstsL, inv.putT, Nat.reduceAdd, List.set_cons_zero, List.set_cons_succ, h5, h7]; (try rfl)) hS (⟨some B, ⟨B, k, rfl, hk, rfl⟩, b5⟩) (fun _ _ h => h)
        · simp only [inv.dstsL, inv.putT, Nat.reduceAdd, List.set_cons_zero, List.set_cons_succ]
          obtain ⟨g8, ⟨B, k, rfl, hk, h8⟩, b8⟩ := hD 8 (by kernel_rfl)
          obtain ⟨z, hs, hs2, hs3⟩ : ∃ z : Int, (#[.int .i64 (-1), .int .i64 1048576, .int .i64 1048577] : Array Value)[k]? = some (.int .i64 z) ∧ -9223372036854775808 ≤ z ∧ z ≤ 9223372036854775807 := by
            rcases (show k = 0 ∨ k = 1 ∨ k = 2 by omega) with rfl | rfl | rfl
            all_goals exact ⟨_, rfl, by decide, by decide⟩
          have c8 := (cell_at b8.1 k).1.trans hs
          rw [h8]
          go_simp
          exact hK _ _ _ (by simp only [inv.dstsL, inv.putT, Nat.reduceAdd, List.set_cons_zero, List.set_cons_succ, h8]; (try rfl)) hS (⟨none, ⟨z, hs2, hs3, rfl⟩, trivial⟩) (fun _ _ h => h)
        · simp only [inv.dstsL, inv.putT, Nat.reduceAdd, List.set_cons_zero, List.set_cons_succ]
          have h1 : vs 1 = .slice (some ⟨rb, 0, none⟩) N cn := (hD 1 (by kernel_rfl)).elim fun _ h => h.1
          obtain ⟨g4, ⟨k, hk, h4⟩, b4⟩ := hD 4 (by kernel_rfl)
          rw [h1, h4]
          go_simp
          exact hK _ _ _ (by simp only [inv.dstsL, inv.putT, Nat.reduceAdd, List.set_cons_zero, List.set_cons_succ, h1, h4]; (try rfl)) hS (⟨none, ⟨k, hk, rfl⟩, trivial⟩) (fun _ _ h => h)
        · simp only [inv.dstsL, inv.putT, Nat.reduceAdd, List.set_cons_zero, List.set_cons_succ]
          obtain ⟨g10, ⟨k, hk, h10⟩, b10⟩ := hD 10 (by kernel_rfl)
          rw [h10]
          go_simp
          exact hK _ _ _ (by simp only [inv.dstsL, inv.putT, Nat.reduceAdd, List.set_cons_zero, List.set_cons_succ, h10]; (try rfl)) hS (⟨none, ⟨k, hk, rfl⟩, trivial⟩) (fun _ _ h => h)
        · simp only [inv.dstsL, inv.putT, Nat.reduceAdd, List.set_cons_zero, List.set_cons_succ]
          obtain ⟨g11, ⟨k, hk, h11⟩, b11⟩ := hD 11 (by kernel_rfl)
          obtain ⟨g9, ⟨z, z0, z1, h9⟩, b9⟩ := hD 9 (by kernel_rfl)
          obtain ⟨u, cu, fu⟩ := hS.rowN k hk 1 (by decide)
          rw [h11, h9]
          go_simp
          exact hK undef _ _ (by simp only [inv.dstsL, inv.putT, Nat.reduceAdd, List.set_cons_zero, List.set_cons_succ, h11, h9]; (try rfl)) (hS.setN k hk 1 (by decide) (.int .i64 z) (fun y => { y with cu := z }) (fun _ => rfl) (fun y hy => hy)) (⟨none, trivial, trivial⟩) (DA.kept (keep_set _ (.inl rfl)))
      case rest =>
        intro vs W3 done hdone hS hD
        clear hD hdone
        simp only [inv.dstsL, inv.putT, Nat.reduceAdd, List.set_cons_zero, List.set_cons_succ]
        generalize vs 0 = y0, vs 1 = y1, vs 2 = y2, vs 3 = y3, vs 4 = y4, vs 5 = y5, vs 6 = y6, vs 7 = y7, vs 8 = y8, vs 9 = y9, vs 10 = y10, vs 11 = y11
        have HOS := Lib.hid hS
        obtain ⟨c0, c1, -, -⟩ := hS.cells
        obtain ⟨p, q, r0, r1, f0, f1⟩ := hS.rcells
        have PO := Lib.hid (odd_end hS)
        clear hS
        go_wp2
        exact bodyPost_ret (v := .agg #[.slice (some ⟨rb, 0, none⟩) N cn, .slice (some ⟨sb, 0, none⟩) M cd]) (by simp [results, Tryd.results14, go_sem, PO.out.1, PO.out.2.1]) rfl PO.out.2.2
    · go_wp2_with fail
      refine inv.wp_region_inv (fun _ W => OS w0 w W a len cap bd x (.slice (some ⟨rb, 0, none⟩) N cn) (.slice (some ⟨sb, 0, none⟩) M cd) N M) (DA (VA2 x bd rb cn sb cd N M) bd rb sb #[.int .i64 (-1), .int .i64 7, .int .i64 8] 3) (by kernel_rfl) (by kernel_rfl) OS2.out.drew ?steps ?rest
      case steps =>
        refine ⟨fun vs W done hS hD hno K hK => ?_, fun vs W done hS hD hno K hK => ?_, fun vs W done hS hD hno K hK => ?_, fun vs W done hS hD hno K hK => ?_, fun vs W done hS hD hno K hK => ?_, fun vs W done hS hD hno K hK => ?_, fun vs W done hS hD hno K hK => ?_, fun vs W done hS hD hno K hK => ?_, fun vs W done hS hD hno K hK => ?_, fun vs W done hS hD hno K hK => ?_, fun vs W done hS hD hno K hK => ?_, fun vs W done hS hD hno K hK => ?_, fun vs W done hS hD hno K hK => ?_, trivial⟩
        · simp only [inv.dstsL, inv.putT, Nat.reduceAdd, List.set_cons_zero, List.set_cons_succ]
          go_simp
          exact hK _ _ _ (by simp only [inv.dstsL, inv.putT, Nat.reduceAdd, List.set_cons_zero, List.set_cons_succ]; (try rfl)) hS (⟨none, rfl, trivial⟩) (fun _ _ h => h)
        · simp only [inv.dstsL, inv.putT, Nat.reduceAdd, List.set_cons_zero, List.set_cons_succ]
          have h0 : vs 0 = .pointer (some ⟨x, 0, none⟩) := (hD 0 (by kernel_rfl)).elim fun _ h => h.1
          obtain ⟨c0, c1, -, -⟩ := hS.cells
          rw [h0]
          go_simp
          exact hK _ _ _ (by simp only [inv.dstsL, inv.putT, Nat.reduceAdd, List.set_cons_zero, List.set_cons_succ, h0]; (try rfl)) hS (⟨none, rfl, trivial⟩) (fun _ _ h => h)
        · simp only [inv.dstsL, inv.putT, Nat.reduceAdd, List.set_cons_zero, List.set_cons_succ]
          go_simp
          exact hK _ _ _ (by simp only [inv.dstsL, inv.putT, Nat.reduceAdd, List.set_cons_zero, List.set_cons_succ]; (try rfl)) hS (⟨none, rfl, trivial⟩) (fun _ _ h => h)
        · simp only [inv.dstsL, inv.putT, Nat.reduceAdd, List.set_cons_zero, List.set_cons_succ]
          go_simp
          exact hK _ _ _ (by simp only [inv.dstsL, inv.putT, Nat.reduceAdd, List.set_cons_zero, List.set_cons_succ]; (try rfl)) hS (⟨none, rfl, trivial⟩) (fun _ _ h => h)
        · simp only [inv.dstsL, inv.putT, Nat.reduceAdd, List.set_cons_zero, List.set_cons_succ]
          have h2 : vs 2 = .pointer (some ⟨bd, 0, none⟩) := (hD 2 (by kernel_rfl)).elim fun _ h => h.1
          have h3 : vs 3 = .int .i64 ((N : Nat) : Int) := (hD 3 (by kernel_rfl)).elim fun _ h => h.1
          rw [h2, h3]
          go_simp
          refine (hS.game.next HR.out ((N : Nat) : Int) (by omega)).mono ?_; rintro e W2 ⟨r, rfl, r0, r1, hg2, hgb2⟩
          obtain ⟨k, rfl⟩ : ∃ k : Nat, r = k := ⟨r.toNat, by omega⟩
          have hk : k < N := by omega
          clear r0 r1
          go_wp2_with fail
          exact hK _ _ _ (by simp only [inv.dstsL, inv.putT, Nat.reduceAdd, List.set_cons_zero, List.set_cons_succ, h2, h3]; (try rfl)) (hS.kept hgb2 hg2) (⟨none, ⟨k, hk, rfl⟩, trivial⟩) (DA.kept (keep_gb hgb2))
        · simp only [inv.dstsL, inv.putT, Nat.reduceAdd, List.set_cons_zero, List.set_cons_succ]
          go_simp
          exact hK _ _ _ (by simp only [inv.dstsL, inv.putT, Nat.reduceAdd, List.set_cons_zero, List.set_cons_succ]; (try rfl)) (hS.alloc _) (⟨some W.heap.size, ⟨_, rfl, rfl⟩, heap_alloc_new _ _, hS.rlt⟩) (DA.kept (keep_new _))
        · simp only [inv.dstsL, inv.putT, Nat.reduceAdd, List.set_cons_zero, List.set_cons_succ]
          go_simp
          exact hK _ _ _ (by simp only [inv.dstsL, inv.putT, Nat.reduceAdd, List.set_cons_zero, List.set_cons_succ]; (try rfl)) hS (⟨none, rfl, trivial⟩) (fun _ _ h => h)
        · simp only [inv.dstsL, inv.putT, Nat.reduceAdd, List.set_cons_zero, List.set_cons_succ]
          have h6 : vs 6 = .pointer (some ⟨bd, 0, none⟩) := (hD 6 (by kernel_rfl)).elim fun _ h => h.1
          rw [h6]
          go_simp
          refine (hS.game.next HR.out ((3 : Nat) : Int) (by omega)).mono ?_; rintro e W2 ⟨r, rfl, r0, r1, hg2, hgb2⟩
          obtain ⟨k, rfl⟩ : ∃ k : Nat, r = k := ⟨r.toNat, by omega⟩
          have hk : k < 3 := by omega
          clear r0 r1
          go_wp2_with fail
          exact hK _ _ _ (by simp only [inv.dstsL, inv.putT, Nat.reduceAdd, List.set_cons_zero, List.set_cons_succ, h6]; (try rfl)) (hS.kept hgb2 hg2) (⟨none, ⟨k, hk, rfl⟩, trivial⟩) (DA.kept (keep_gb hgb2))
        · simp only [inv.dstsL, inv.putT, Nat.reduceAdd, List.set_cons_zero, List.set_cons_succ]
          obtain ⟨g5, ⟨B, rfl, h5⟩, b5⟩ := hD 5 (by kernel_rfl)
          obtain ⟨g7, ⟨k, hk, h7⟩, b7⟩ := hD 7 (by kernel_rfl)
          have hk2 : (k : Int) < 3 := by omega
          rw [h5, h7]
          go_simp
          exact hK _ _ _ (by simp only [inv.dstsL, inv.putT, Nat.reduceAdd, List.set_cons_zero, List.set_cons_succ, h5, h7]; (try rfl)) hS (⟨some B, ⟨B, k, rfl, hk, rfl⟩, b5⟩) (fun _ _ h => h)
        · simp only [inv.dstsL, inv.putT, Nat.reduceAdd, List.set_cons_zero, List.set_cons_succ]
          obtain ⟨g8, ⟨B, k, rfl, hk, h8⟩, b8⟩ := hD 8 (by kernel_rfl)
          obtain ⟨z, hs, hs2, hs3⟩ : ∃ z : Int, (#[.int .i64 (-1), .int .i64 7, .int .i64 8] : Array Value)[k]? = some (.int .i64 z) ∧ -9223372036854775808 ≤ z ∧ z ≤ 9223372036854775807 := by
            rcases (show k = 0 ∨ k = 1 ∨ k = 2 by omega) with rfl | rfl | rfl
            all_goals exact ⟨_, rfl, by decide, by decide⟩
          have c8 := (cell_at b8.1 k).1.trans hs
          rw [h8]
          go_simp
          exact hK _ _ _ (by simp only [inv.dstsL, inv.putT, Nat.reduceAdd, List.set_cons_zero, List.set_cons_succ, h8]; (try rfl)) hS (⟨none, ⟨z, hs2, hs3, rfl⟩, trivial⟩) (fun _ _ h => h)
        · simp only [inv.dstsL, inv.putT, Nat.reduceAdd, List.set_cons_zero, List.set_cons_succ]
          have h1 : vs 1 = .slice (some ⟨rb, 0, none⟩) N cn := (hD 1 (by kernel_rfl)).elim fun _ h => h.1
          obtain ⟨g4, ⟨k, hk, h4⟩, b4⟩ := hD 4 (by kernel_rfl)
          rw [h1, h4]
          go_simp
          exact hK _ _ _ (by simp only [inv.dstsL, inv.putT, Nat.reduceAdd, List.set_cons_zero, List.set_cons_succ, h1, h4]; (try rfl)) hS (⟨none, ⟨k, hk, rfl⟩, trivial⟩) (fun _ _ h => h)
        · simp only [inv.dstsL, inv.putT, Nat.reduceAdd, List.set_cons_zero, List.set_cons_succ]
          obtain ⟨g10, ⟨k, hk, h10⟩, b10⟩ := hD 10 (by kernel_rfl)
          rw [h10]
          go_simp
          exact hK _ _ _ (by simp only [inv.dstsL, inv.putT, Nat.reduceAdd, List.set_cons_zero, List.set_cons_succ, h10]; (try rfl)) hS (⟨none, ⟨k, hk, rfl⟩, trivial⟩) (fun _ _ h => h)
        · simp only [inv.dstsL, inv.putT, Nat.reduceAdd, List.set_cons_zero, List.set_cons_succ]
          obtain ⟨g11, ⟨k, hk, h11⟩, b11⟩ := hD 11 (by kernel_rfl)
          obtain ⟨g9, ⟨z, z0, z1, h9⟩, b9⟩ := hD 9 (by kernel_rfl)
          obtain ⟨u, cu, fu⟩ := hS.rowN k hk 2 (by decide)
          rw [h11, h9]
          go_simp
          exact hK undef _ _ (by simp only [inv.dstsL, inv.putT, Nat.reduceAdd, List.set_cons_zero, List.set_cons_succ, h11, h9]; (try rfl)) (hS.setN k hk 2 (by decide) (.int .i64 z) (fun y => { y with co := z }) (fun _ => rfl) (fun y hy => hy)) (⟨none, trivial, trivial⟩) (DA.kept (keep_set _ (.inl rfl)))
      case rest =>
        intro vs W3 done hdone hS hD
        clear hD hdone
        simp only [inv.dstsL, inv.putT, Nat.reduceAdd, List.set_cons_zero, List.set_cons_succ]
        generalize vs 0 = y0, vs 1 = y1, vs 2 = y2, vs 3 = y3, vs 4 = y4, vs 5 = y5, vs 6 = y6, vs 7 = y7, vs 8 = y8, vs 9 = y9, vs 10 = y10, vs 11 = y11
        have HOS := Lib.hid hS
        obtain ⟨c0, c1, -, -⟩ := hS.cells
        obtain ⟨p, q, r0, r1, f0, f1⟩ := hS.rcells
        have PO := Lib.hid (odd_end hS)
        clear hS
        go_wp2
        exact bodyPost_ret (v := .agg #[.slice (some ⟨rb, 0, none⟩) N cn, .slice (some ⟨sb, 0, none⟩) M cd]) (by simp [results, Tryd.results14, go_sem, PO.out.1, PO.out.2.1]) rfl PO.out.2.2
    · go_wp2_with fail
      refine inv.wp_region_inv (fun _ W => OS w0 w W a len cap bd x (.slice (some ⟨rb, 0, none⟩) N cn) (.slice (some ⟨sb, 0, none⟩) M cd) N M) (DA (VA3 x bd rb cn sb cd N M) bd rb sb #[.string ⟨#[]⟩, .string ⟨#[78, 48, 49]⟩, .string ⟨#[83, 48, 48]⟩, .string ⟨#[81, 32, 49]⟩] 9) (by kernel_rfl) (by kernel_rfl) OS2.out.drew ?steps ?rest
      case steps =>
        refine ⟨fun vs W done hS hD hno K hK => ?_, fun vs W done hS hD hno K hK => ?_, fun vs W done hS hD hno K hK => ?_, fun vs W done hS hD hno K hK => ?_, fun vs W done hS hD hno K hK => ?_, fun vs W done hS hD hno K hK => ?_, fun vs W done hS hD hno K hK => ?_, fun vs W done hS hD hno K hK => ?_, fun vs W done hS hD hno K hK => ?_, fun vs W done hS hD hno K hK => ?_, fun vs W done hS hD hno K hK => ?_, fun vs W done hS hD hno K hK => ?_, fun vs W done hS hD hno K hK => ?_, trivial⟩
        · simp only [inv.dstsL, inv.putT, Nat.reduceAdd, List.set_cons_zero, List.set_cons_succ]
          go_simp
          exact hK _ _ _ (by simp only [inv.dstsL, inv.putT, Nat.reduceAdd, List.set_cons_zero, List.set_cons_succ]; (try rfl)) hS (⟨none, rfl, trivial⟩) (fun _ _ h => h)
        · simp only [inv.dstsL, inv.putT, Nat.reduceAdd, List.set_cons_zero, List.set_cons_succ]
          have h0 : vs 0 = .pointer (some ⟨x, 1, none⟩) := (hD 0 (by kernel_rfl)).elim fun _ h => h.1
          obtain ⟨c0, c1, -, -⟩ := hS.cells
          rw [h0]
          go_simp
          exact hK _ _ _ (by simp only [inv.dstsL, inv.putT, Nat.reduceAdd, List.set_cons_zero, List.set_cons_succ, h0]; (try rfl)) hS (⟨none, rfl, trivial⟩) (fun _ _ h => h)
        · simp only [inv.dstsL, inv.putT, Nat.reduceAdd, List.set_cons_zero, List.set_cons_succ]
          go_simp
          exact hK _ _ _ (by simp only [inv.dstsL, inv.putT, Nat.reduceAdd, List.set_cons_zero, List.set_cons_succ]; (try rfl)) hS (⟨none, rfl, trivial⟩) (fun _ _ h => h)
        · simp only [inv.dstsL, inv.putT, Nat.reduceAdd, List.set_cons_zero, List.set_cons_succ]
          go_simp
          exact hK _ _ _ (by simp only [inv.dstsL, inv.putT, Nat.reduceAdd, List.set_cons_zero, List.set_cons_succ]; (try rfl)) hS (⟨none, rfl, trivial⟩) (fun _ _ h => h)
        · simp only [inv.dstsL, inv.putT, Nat.reduceAdd, List.set_cons_zero, List.set_cons_succ]
          have h2 : vs 2 = .pointer (some ⟨bd, 0, none⟩) := (hD 2 (by kernel_rfl)).elim fun _ h => h.1
          have h3 : vs 3 = .int .i64 ((M : Nat) : Int) := (hD 3 (by kernel_rfl)).elim fun _ h => h.1
          rw [h2, h3]
          go_simp
          refine (hS.game.next HR.out ((M : Nat) : Int) (by omega)).mono ?_; rintro e W2 ⟨r, rfl, r0, r1, hg2, hgb2⟩
          obtain ⟨k, rfl⟩ : ∃ k : Nat, r = k := ⟨r.toNat, by omega⟩
          have hk : k < M := by omega
          clear r0 r1
          go_wp2_with fail
          exact hK _ _ _ (by simp only [inv.dstsL, inv.putT, Nat.reduceAdd, List.set_cons_zero, List.set_cons_succ, h2, h3]; (try rfl)) (hS.kept hgb2 hg2) (⟨none, ⟨k, hk, rfl⟩, trivial⟩) (DA.kept (keep_gb hgb2))
        · simp only [inv.dstsL, inv.putT, Nat.reduceAdd, List.set_cons_zero, List.set_cons_succ]
          go_simp
          exact hK _ _ _ (by simp only [inv.dstsL, inv.putT, Nat.reduceAdd, List.set_cons_zero, List.set_cons_succ]; (try rfl)) (hS.alloc _) (⟨some W.heap.size, ⟨_, rfl, rfl⟩, heap_alloc_new _ _, hS.rlt⟩) (DA.kept (keep_new _))
        · simp only [inv.dstsL, inv.putT, Nat.reduceAdd, List.set_cons_zero, List.set_cons_succ]
          go_simp
          exact hK _ _ _ (by simp only [inv.dstsL, inv.putT, Nat.reduceAdd, List.set_cons_zero, List.set_cons_succ]; (try rfl)) hS (⟨none, rfl, trivial⟩) (fun _ _ h => h)
        · simp only [inv.dstsL, inv.putT, Nat.reduceAdd, List.set_cons_zero, List.set_cons_succ]
          have h6 : vs 6 = .pointer (some ⟨bd, 0, none⟩) := (hD 6 (by kernel_rfl)).elim fun _ h => h.1
          rw [h6]
          go_simp
          refine (hS.game.next HR.out ((4 : Nat) : Int) (by omega)).mono ?_; rintro e W2 ⟨r, rfl, r0, r1, hg2, hgb2⟩
          obtain ⟨k, rfl⟩ : ∃ k : Nat, r = k := ⟨r.toNat, by omega⟩
          have hk : k < 4 := by omega
          clear r0 r1
          go_wp2_with fail
          exact hK _ _ _ (by simp only [inv.dstsL, inv.putT, Nat.reduceAdd, List.set_cons_zero, List.set_cons_succ, h6]; (try rfl)) (hS.kept hgb2 hg2) (⟨none, ⟨k, hk, rfl⟩, trivial⟩) (DA.kept (keep_gb hgb2))
        · simp only [inv.dstsL, inv.putT, Nat.reduceAdd, List.set_cons_zero, List.set_cons_succ]
          obtain ⟨g5, ⟨B, rfl, h5⟩, b5⟩ := hD 5 (by kernel_rfl)
          obtain ⟨g7, ⟨k, hk, h7⟩, b7⟩ := hD 7 (by kernel_rfl)
          have hk2 : (k : Int) < 4 := by omega
          rw [h5, h7]
          go_simp
          exact hK _ _ _ (by simp only [inv.dstsL, inv.putT, Nat.reduceAdd, List.set_cons_zero, List.set_cons_succ, h5, h7]; (try rfl)) hS (⟨some B, ⟨B, k, rfl, hk, rfl⟩, b5⟩) (fun _ _ h => h)
        · simp only [inv.dstsL, inv.putT, Nat.reduceAdd, List.set_cons_zero, List.set_cons_succ]
          obtain ⟨g8, ⟨B, k, rfl, hk, h8⟩, b8⟩ := hD 8 (by kernel_rfl)
          obtain ⟨s, hs, hs2⟩ : ∃ s : ByteArray, (#[.string ⟨#[]⟩, .string ⟨#[78, 48, 49]⟩, .string ⟨#[83, 48, 48]⟩, .string ⟨#[81, 32, 49]⟩] : Array Value)[k]? = some (.string s) ∧ s.size ≤ maxLen := by
            rcases (show k = 0 ∨ k = 1 ∨ k = 2 ∨ k = 3 by omega) with rfl | rfl | rfl | rfl
            all_goals exact ⟨_, rfl, by decide⟩
          have c8 := (cell_at b8.1 k).1.trans hs
          rw [h8]
          go_simp
          exact hK _ _ _ (by simp only [inv.dstsL, inv.putT, Nat.reduceAdd, List.set_cons_zero, List.set_cons_succ, h8]; (try rfl)) hS (⟨none, ⟨s, hs2, rfl⟩, trivial⟩) (fun _ _ h => h)
        · simp only [inv.dstsL, inv.putT, Nat.reduceAdd, List.set_cons_zero, List.set_cons_succ]
          have h1 : vs 1 = .slice (some ⟨sb, 0, none⟩) M cd := (hD 1 (by kernel_rfl)).elim fun _ h => h.1
          obtain ⟨g4, ⟨k, hk, h4⟩, b4⟩ := hD 4 (by kernel_rfl)
          rw [h1, h4]
          go_simp
          exact hK _ _ _ (by simp only [inv.dstsL, inv.putT, Nat.reduceAdd, List.set_cons_zero, List.set_cons_succ, h1, h4]; (try rfl)) hS (⟨none, ⟨k, hk, rfl⟩, trivial⟩) (fun _ _ h => h)
        · simp only [inv.dstsL, inv.putT, Nat.reduceAdd, List.set_cons_zero, List.set_cons_succ]
          obtain ⟨g10, ⟨k, hk, h10⟩, b10⟩ := hD 10 (by kernel_rfl)
          rw [h10]
          go_simp
          exact hK _ _ _ (by simp only [inv.dstsL, inv.putT, Nat.reduceAdd, List.set_cons_zero, List.set_cons_succ, h10]; (try rfl)) hS (⟨none, ⟨k, hk, rfl⟩, trivial⟩) (fun _ _ h => h)
        · simp only [inv.dstsL, inv.putT, Nat.reduceAdd, List.set_cons_zero, List.set_cons_succ]
          obtain ⟨g11, ⟨k, hk, h11⟩, b11⟩ := hD 11 (by kernel_rfl)
          obtain ⟨g9, ⟨s, hs, h9⟩, b9⟩ := hD 9 (by kernel_rfl)
          obtain ⟨u, cu, fu⟩ := hS.rowD k hk 0 (by decide)
          rw [Nat.add_zero] at cu fu
          rw [h11, h9]
          go_simp
          exact hK undef _ _ (by simp only [inv.dstsL, inv.putT, Nat.reduceAdd, List.set_cons_zero, List.set_cons_succ, h11, h9]; (try rfl)) (hS.setD k hk 0 (by decide) (.string s) (fun z => { z with nm := s }) (fun _ => rfl) (fun y hy => ⟨hy.1, hy.2.1, hy.2.2.1, hy.2.2.2.1, hs⟩)) (⟨none, trivial, trivial⟩) (DA.kept (keep_set _ (.inr rfl)))
      case rest =>
        intro vs W3 done hdone hS hD
        clear hD hdone
        simp only [inv.dstsL, inv.putT, Nat.reduceAdd, List.set_cons_zero, List.set_cons_succ]
        generalize vs 0 = y0, vs 1 = y1, vs 2 = y2, vs 3 = y3, vs 4 = y4, vs 5 = y5, vs 6 = y6, vs 7 = y7, vs 8 = y8, vs 9 = y9, vs 10 = y10, vs 11 = y11
        have HOS := Lib.hid hS
        obtain ⟨c0, c1, -, -⟩ := hS.cells
        obtain ⟨p, q, r0, r1, f0, f1⟩ := hS.rcells
        have PO := Lib.hid (odd_end hS)
        clear hS
        go_wp2
        exact bodyPost_ret (v := .agg #[.slice (some ⟨rb, 0, none⟩) N cn, .slice (some ⟨sb, 0, none⟩) M cd]) (by simp [results, Tryd.results14, go_sem, PO.out.1, PO.out.2.1]) rfl PO.out.2.2
    · go_wp2_with fail
      refine inv.wp_region_inv (fun _ W => OS w0 w W a len cap bd x (.slice (some ⟨rb, 0, none⟩) N cn) (.slice (some ⟨sb, 0, none⟩) M cd) N M) (DA (VA4 x bd rb cn sb cd N M) bd rb sb #[] 0) (by kernel_rfl) (by kernel_rfl) OS2.out.drew ?steps ?rest
      case steps =>
        refine ⟨fun vs W done hS hD hno K hK => ?_, fun vs W done hS hD hno K hK => ?_, fun vs W done hS hD hno K hK => ?_, fun vs W done hS hD hno K hK => ?_, fun vs W done hS hD hno K hK => ?_, fun vs W done hS hD hno K hK => ?_, fun vs W done hS hD hno K hK => ?_, fun vs W done hS hD hno K hK => ?_, fun vs W done hS hD hno K hK => ?_, fun vs W done hS hD hno K hK => ?_, fun vs W done hS hD hno K hK => ?_, trivial⟩
        · simp only [inv.dstsL, inv.putT, Nat.reduceAdd, List.set_cons_zero, List.set_cons_succ]
          go_simp
          exact hK _ _ _ (by simp only [inv.dstsL, inv.putT, Nat.reduceAdd, List.set_cons_zero, List.set_cons_succ]; (try rfl)) hS (⟨none, rfl, trivial⟩) (fun _ _ h => h)
        · simp only [inv.dstsL, inv.putT, Nat.reduceAdd, List.set_cons_zero, List.set_cons_succ]
          have h0 : vs 0 = .pointer (some ⟨x, 1, none⟩) := (hD 0 (by kernel_rfl)).elim fun _ h => h.1
          obtain ⟨c0, c1, -, -⟩ := hS.cells
          rw [h0]
          go_simp
          exact hK _ _ _ (by simp only [inv.dstsL, inv.putT, Nat.reduceAdd, List.set_cons_zero, List.set_cons_succ, h0]; (try rfl)) hS (⟨none, rfl, trivial⟩) (fun _ _ h => h)
        · simp only [inv.dstsL, inv.putT, Nat.reduceAdd, List.set_cons_zero, List.set_cons_succ]
          go_simp
          exact hK _ _ _ (by simp only [inv.dstsL, inv.putT, Nat.reduceAdd, List.set_cons_zero, List.set_cons_succ]; (try rfl)) hS (⟨none, rfl, trivial⟩) (fun _ _ h => h)
        · simp only [inv.dstsL, inv.putT, Nat.reduceAdd, List.set_cons_zero, List.set_cons_succ]
          go_simp
          exact hK _ _ _ (by simp only [inv.dstsL, inv.putT, Nat.reduceAdd, List.set_cons_zero, List.set_cons_succ]; (try rfl)) hS (⟨none, rfl, trivial⟩) (fun _ _ h => h)
        · simp only [inv.dstsL, inv.putT, Nat.reduceAdd, List.set_cons_zero, List.set_cons_succ]
          have h2 : vs 2 = .pointer (some ⟨bd, 0, none⟩) := (hD 2 (by kernel_rfl)).elim fun _ h => h.1
          have h3 : vs 3 = .int .i64 ((M : Nat) : Int) := (hD 3 (by kernel_rfl)).elim fun _ h => h.1
          rw [h2, h3]
          go_simp
          refine (hS.game.next HR.out ((M : Nat) : Int) (by omega)).mono ?_; rintro e W2 ⟨r, rfl, r0, r1, hg2, hgb2⟩
          obtain ⟨k, rfl⟩ : ∃ k : Nat, r = k := ⟨r.toNat, by omega⟩
          have hk : k < M := by omega
          clear r0 r1
          go_wp2_with fail
          exact hK _ _ _ (by simp only [inv.dstsL, inv.putT, Nat.reduceAdd, List.set_cons_zero, List.set_cons_succ, h2, h3]; (try rfl)) (hS.kept hgb2 hg2) (⟨none, ⟨k, hk, rfl⟩, trivial⟩) (DA.kept (keep_gb hgb2))
        · simp only [inv.dstsL, inv.putT, Nat.reduceAdd, List.set_cons_zero, List.set_cons_succ]
          go_simp
          exact hK _ _ _ (by simp only [inv.dstsL, inv.putT, Nat.reduceAdd, List.set_cons_zero, List.set_cons_succ]; (try rfl)) hS (⟨none, rfl, trivial⟩) (fun _ _ h => h)
        · simp only [inv.dstsL, inv.putT, Nat.reduceAdd, List.set_cons_zero, List.set_cons_succ]
          have h5 : vs 5 = .pointer (some ⟨bd, 0, none⟩) := (hD 5 (by kernel_rfl)).elim fun _ h => h.1
          rw [h5]
          go_simp
          refine (hS.game.next HR.out ((9 : Nat) : Int) (by omega)).mono ?_; rintro e W2 ⟨r, rfl, r0, r1, hg2, hgb2⟩
          obtain ⟨k, rfl⟩ : ∃ k : Nat, r = k := ⟨r.toNat, by omega⟩
          have hk : k < 9 := by omega
          clear r0 r1
          go_wp2_with fail
          exact hK _ _ _ (by simp only [inv.dstsL, inv.putT, Nat.reduceAdd, List.set_cons_zero, List.set_cons_succ, h5]; (try rfl)) (hS.kept hgb2 hg2) (⟨none, ⟨k, hk, rfl⟩, trivial⟩) (DA.kept (keep_gb hgb2))
        · simp only [inv.dstsL, inv.putT, Nat.reduceAdd, List.set_cons_zero, List.set_cons_succ]
          obtain ⟨g6, ⟨k, hk, h6⟩, b6⟩ := hD 6 (by kernel_rfl)
          have hw : IntKind.i64.wrap ((k : Int) - 1) = (k : Int) - 1 := by rw [IntKind.wrap_i64]; omega
          rw [h6]
          go_simp
          exact hK _ _ _ (by simp only [inv.dstsL, inv.putT, Nat.reduceAdd, List.set_cons_zero, List.set_cons_succ, h6]; (try rfl)) hS (⟨none, ⟨(k : Int) - 1, by omega, by omega, rfl⟩, trivial⟩) (fun _ _ h => h)
        · simp only [inv.dstsL, inv.putT, Nat.reduceAdd, List.set_cons_zero, List.set_cons_succ]
          have h1 : vs 1 = .slice (some ⟨sb, 0, none⟩) M cd := (hD 1 (by kernel_rfl)).elim fun _ h => h.1
          obtain ⟨g4, ⟨k, hk, h4⟩, b4⟩ := hD 4 (by kernel_rfl)
          rw [h1, h4]
          go_simp
          exact hK _ _ _ (by simp only [inv.dstsL, inv.putT, Nat.reduceAdd, List.set_cons_zero, List.set_cons_succ, h1, h4]; (try rfl)) hS (⟨none, ⟨k, hk, rfl⟩, trivial⟩) (fun _ _ h => h)
        · simp only [inv.dstsL, inv.putT, Nat.reduceAdd, List.set_cons_zero, List.set_cons_succ]
          obtain ⟨g8, ⟨k, hk, h8⟩, b8⟩ := hD 8 (by kernel_rfl)
          rw [h8]
          go_simp
          exact hK _ _ _ (by simp only [inv.dstsL, inv.putT, Nat.reduceAdd, List.set_cons_zero, List.set_cons_succ, h8]; (try rfl)) hS (⟨none, ⟨k, hk, rfl⟩, trivial⟩) (fun _ _ h => h)
        · simp only [inv.dstsL, inv.putT, Nat.reduceAdd, List.set_cons_zero, List.set_cons_succ]
          obtain ⟨g9, ⟨k, hk, h9⟩, b9⟩ := hD 9 (by kernel_rfl)
          obtain ⟨g7, ⟨z, z0, z1, h7⟩, b7⟩ := hD 7 (by kernel_rfl)
          obtain ⟨u, cu, fu⟩ := hS.rowD k hk 1 (by decide)
          rw [h9, h7]
          go_simp
          exact hK undef _ _ (by simp only [inv.dstsL, inv.putT, Nat.reduceAdd, List.set_cons_zero, List.set_cons_succ, h9, h7]; (try rfl)) (hS.setD k hk 1 (by decide) (.int .i64 z) (fun y => { y with ki := z }) (fun _ => rfl) (fun y hy => hy)) (⟨none, trivial, trivial⟩) (DA.kept (keep_set _ (.inr rfl)))
      case rest =>
        intro vs W3 done hdone hS hD
        clear hD hdone
        simp only [inv.dstsL, inv.putT, Nat.reduceAdd, List.set_cons_zero, List.set_cons_succ]
        generalize vs 0 = y0, vs 1 = y1, vs 2 = y2, vs 3 = y3, vs 4 = y4, vs 5 = y5, vs 6 = y6, vs 7 = y7, vs 8 = y8, vs 9 = y9
        have HOS := Lib.hid hS
        obtain ⟨c0, c1, -, -⟩ := hS.cells
        obtain ⟨p, q, r0, r1, f0, f1⟩ := hS.rcells
        have PO := Lib.hid (odd_end hS)
        clear hS
        go_wp2
        exact bodyPost_ret (v := .agg #[.slice (some ⟨rb, 0, none⟩) N cn, .slice (some ⟨sb, 0, none⟩) M cd]) (by simp [results, Tryd.results14, go_sem, PO.out.1, PO.out.2.1]) rfl PO.out.2.2
    · go_wp2_with fail
      refine inv.wp_region_inv (fun _ W => OS w0 w W a len cap bd x (.slice (some ⟨rb, 0, none⟩) N cn) (.slice (some ⟨sb, 0, none⟩) M cd) N M) (DA (VA5 x bd rb cn sb cd N M) bd rb sb #[] 0) (by kernel_rfl) (by kernel_rfl) OS2.out.drew ?steps ?rest
      case steps =>
        refine ⟨fun vs W done hS hD hno K hK => ?_, fun vs W done hS hD hno K hK => ?_, fun vs W done hS hD hno K hK => ?_, fun vs W done hS hD hno K hK => ?_, fun vs W done hS hD hno K hK => ?_, fun vs W done hS hD hno K hK => ?_, fun vs W done hS hD hno K hK => ?_, fun vs W done hS hD hno K hK => ?_, fun vs W done hS hD hno K hK => ?_, fun vs W done hS hD hno K hK => ?_, fun vs W done hS hD hno K hK => ?_, fun vs W done hS hD hno K hK => ?_, fun vs W done hS hD hno K hK => ?_, trivial⟩
        · simp only [inv.dstsL, inv.putT, Nat.reduceAdd, List.set_cons_zero, List.set_cons_succ]
          go_simp
          exact hK _ _ _ (by simp only [inv.dstsL, inv.putT, Nat.reduceAdd, List.set_cons_zero, List.set_cons_succ]; (try rfl)) hS (⟨none, rfl, trivial⟩) (fun _ _ h => h)
        · simp only [inv.dstsL, inv.putT, Nat.reduceAdd, List.set_cons_zero, List.set_cons_succ]
          have h0 : vs 0 = .pointer (some ⟨x, 1, none⟩) := (hD 0 (by kernel_rfl)).elim fun _ h => h.1
          obtain ⟨c0, c1, -, -⟩ := hS.cells
          rw [h0]
          go_simp
          exact hK _ _ _ (by simp only [inv.dstsL, inv.putT, Nat.reduceAdd, List.set_cons_zero, List.set_cons_succ, h0]; (try rfl)) hS (⟨none, rfl, trivial⟩) (fun _ _ h => h)
        · simp only [inv.dstsL, inv.putT, Nat.reduceAdd, List.set_cons_zero, List.set_cons_succ]
          go_simp
          exact hK _ _ _ (by simp only [inv.dstsL, inv.putT, Nat.reduceAdd, List.set_cons_zero, List.set_cons_succ]; (try rfl)) hS (⟨none, rfl, trivial⟩) (fun _ _ h => h)
        · simp only [inv.dstsL, inv.putT, Nat.reduceAdd, List.set_cons_zero, List.set_cons_succ]
          go_simp
          exact hK _ _ _ (by simp only [inv.dstsL, inv.putT, Nat.reduceAdd, List.set_cons_zero, List.set_cons_succ]; (try rfl)) hS (⟨none, rfl, trivial⟩) (fun _ _ h => h)
        · simp only [inv.dstsL, inv.putT, Nat.reduceAdd, List.set_cons_zero, List.set_cons_succ]
          have h2 : vs 2 = .pointer (some ⟨bd, 0, none⟩) := (hD 2 (by kernel_rfl)).elim fun _ h => h.1
          have h3 : vs 3 = .int .i64 ((M : Nat) : Int) := (hD 3 (by kernel_rfl)).elim fun _ h => h.1
          rw [h2, h3]
          go_simp
          refine (hS.game.next HR.out ((M : Nat) : Int) (by omega)).mono ?_; rintro e W2 ⟨r, rfl, r0, r1, hg2, hgb2⟩
          obtain ⟨k, rfl⟩ : ∃ k : Nat, r = k := ⟨r.toNat, by omega⟩
          have hk : k < M := by omega
          clear r0 r1
          go_wp2_with fail
          exact hK _ _ _ (by simp only [inv.dstsL, inv.putT, Nat.reduceAdd, List.set_cons_zero, List.set_cons_succ, h2, h3]; (try rfl)) (hS.kept hgb2 hg2) (⟨none, ⟨k, hk, rfl⟩, trivial⟩) (DA.kept (keep_gb hgb2))
        · simp only [inv.dstsL, inv.putT, Nat.reduceAdd, List.set_cons_zero, List.set_cons_succ]
          go_simp
          exact hK _ _ _ (by simp only [inv.dstsL, inv.putT, Nat.reduceAdd, List.set_cons_zero, List.set_cons_succ]; (try rfl)) hS (⟨none, rfl, trivial⟩) (fun _ _ h => h)
        · simp only [inv.dstsL, inv.putT, Nat.reduceAdd, List.set_cons_zero, List.set_cons_succ]
          go_simp
          exact hK _ _ _ (by simp only [inv.dstsL, inv.putT, Nat.reduceAdd, List.set_cons_zero, List.set_cons_succ]; (try rfl)) hS (⟨none, rfl, trivial⟩) (fun _ _ h => h)
        · simp only [inv.dstsL, inv.putT, Nat.reduceAdd, List.set_cons_zero, List.set_cons_succ]
          have h6 : vs 6 = .int .i64 (N : Int) := (hD 6 (by kernel_rfl)).elim fun _ h => h.1
          have hw : IntKind.i64.wrap ((N : Int) + 2) = ((N + 2 : Nat) : Int) := by rw [IntKind.wrap_i64]; omega
          rw [h6]
          go_simp
          exact hK _ _ _ (by simp only [inv.dstsL, inv.putT, Nat.reduceAdd, List.set_cons_zero, List.set_cons_succ, h6]; (try rfl)) hS (⟨none, rfl, trivial⟩) (fun _ _ h => h)
        · simp only [inv.dstsL, inv.putT, Nat.reduceAdd, List.set_cons_zero, List.set_cons_succ]
          have h5 : vs 5 = .pointer (some ⟨bd, 0, none⟩) := (hD 5 (by kernel_rfl)).elim fun _ h => h.1
          have h7 : vs 7 = .int .i64 (((N + 2) : Nat) : Int) := (hD 7 (by kernel_rfl)).elim fun _ h => h.1
          rw [h5, h7]
          go_simp
          refine (hS.game.next HR.out (((N + 2) : Nat) : Int) (by omega)).mono ?_; rintro e W2 ⟨r, rfl, r0, r1, hg2, hgb2⟩
          obtain ⟨k, rfl⟩ : ∃ k : Nat, r = k := ⟨r.toNat, by omega⟩
          have hk : k < (N + 2) := by omega
          clear r0 r1
          go_wp2_with fail
          exact hK _ _ _ (by simp only [inv.dstsL, inv.putT, Nat.reduceAdd, List.set_cons_zero, List.set_cons_succ, h5, h7]; (try rfl)) (hS.kept hgb2 hg2) (⟨none, ⟨k, hk, rfl⟩, trivial⟩) (DA.kept (keep_gb hgb2))
        · simp only [inv.dstsL, inv.putT, Nat.reduceAdd, List.set_cons_zero, List.set_cons_succ]
          obtain ⟨g8, ⟨k, hk, h8⟩, b8⟩ := hD 8 (by kernel_rfl)
          have hw : IntKind.i64.wrap ((k : Int) - 1) = (k : Int) - 1 := by rw [IntKind.wrap_i64]; omega
          rw [h8]
          go_simp
          exact hK _ _ _ (by simp only [inv.dstsL, inv.putT, Nat.reduceAdd, List.set_cons_zero, List.set_cons_succ, h8]; (try rfl)) hS (⟨none, ⟨(k : Int) - 1, by omega, by omega, rfl⟩, trivial⟩) (fun _ _ h => h)
        · simp only [inv.dstsL, inv.putT, Nat.reduceAdd, List.set_cons_zero, List.set_cons_succ]
          have h1 : vs 1 = .slice (some ⟨sb, 0, none⟩) M cd := (hD 1 (by kernel_rfl)).elim fun _ h => h.1
          obtain ⟨g4, ⟨k, hk, h4⟩, b4⟩ := hD 4 (by kernel_rfl)
          rw [h1, h4]
          go_simp
          exact hK _ _ _ (by simp only [inv.dstsL, inv.putT, Nat.reduceAdd, List.set_cons_zero, List.set_cons_succ, h1, h4]; (try rfl)) hS (⟨none, ⟨k, hk, rfl⟩, trivial⟩) (fun _ _ h => h)
        · simp only [inv.dstsL, inv.putT, Nat.reduceAdd, List.set_cons_zero, List.set_cons_succ]
          obtain ⟨g10, ⟨k, hk, h10⟩, b10⟩ := hD 10 (by kernel_rfl)
          rw [h10]
          go_simp
          exact hK _ _ _ (by simp only [inv.dstsL, inv.putT, Nat.reduceAdd, List.set_cons_zero, List.set_cons_succ, h10]; (try rfl)) hS (⟨none, ⟨k, hk, rfl⟩, trivial⟩) (fun _ _ h => h)
        · simp only [inv.dstsL, inv.putT, Nat.reduceAdd, List.set_cons_zero, List.set_cons_succ]
          obtain ⟨g11, ⟨k, hk, h11⟩, b11⟩ := hD 11 (by kernel_rfl)
          obtain ⟨g9, ⟨z, z0, z1, h9⟩, b9⟩ := hD 9 (by kernel_rfl)
          obtain ⟨u, cu, fu⟩ := hS.rowD k hk 2 (by decide)
          rw [h11, h9]
          go_simp
          exact hK undef _ _ (by simp only [inv.dstsL, inv.putT, Nat.reduceAdd, List.set_cons_zero, List.set_cons_succ, h11, h9]; (try rfl)) (hS.setD k hk 2 (by decide) (.int .i64 z) (fun y => { y with a := z }) (fun _ => rfl) (fun y hy => ⟨z0, z1, hy.2.2⟩)) (⟨none, trivial, trivial⟩) (DA.kept (keep_set _ (.inr rfl)))
      case rest =>
        intro vs W3 done hdone hS hD
        clear hD hdone
        simp only [inv.dstsL, inv.putT, Nat.reduceAdd, List.set_cons_zero, List.set_cons_succ]
        generalize vs 0 = y0, vs 1 = y1, vs 2 = y2, vs 3 = y3, vs 4 = y4, vs 5 = y5, vs 6 = y6, vs 7 = y7, vs 8 = y8, vs 9 = y9, vs 10 = y10, vs 11 = y11
        have HOS := Lib.hid hS
        obtain ⟨c0, c1, -, -⟩ := hS.cells
        obtain ⟨p, q, r0, r1, f0, f1⟩ := hS.rcells
        have PO := Lib.hid (odd_end hS)
        clear hS
        go_wp2
        exact bodyPost_ret (v := .agg #[.slice (some ⟨rb, 0, none⟩) N cn, .slice (some ⟨sb, 0, none⟩) M cd]) (by simp [results, Tryd.results14, go_sem, PO.out.1, PO.out.2.1]) rfl PO.out.2.2
    · go_wp2_with fail
      refine inv.wp_region_inv (fun _ W => OS w0 w W a len cap bd x (.slice (some ⟨rb, 0, none⟩) N cn) (.slice (some ⟨sb, 0, none⟩) M cd) N M) (DA (VA6 x bd rb cn sb cd N M) bd rb sb #[] 0) (by kernel_rfl) (by kernel_rfl) OS2.out.drew ?steps ?rest
      case steps =>
        refine ⟨fun vs W done hS hD hno K hK => ?_, fun vs W done hS hD hno K hK => ?_, fun vs W done hS hD hno K hK => ?_, fun vs W done hS hD hno K hK => ?_, fun vs W done hS hD hno K hK => ?_, fun vs W done hS hD hno K hK => ?_, fun vs W done hS hD hno K hK => ?_, fun vs W done hS hD hno K hK => ?_, fun vs W done hS hD hno K hK => ?_, fun vs W done hS hD hno K hK => ?_, fun vs W done hS hD hno K hK => ?_, fun vs W done hS hD hno K hK => ?_, fun vs W done hS hD hno K hK => ?_, trivial⟩
        · simp only [inv.dstsL, inv.putT, Nat.reduceAdd, List.set_cons_zero, List.set_cons_succ]
          go_simp
          exact hK _ _ _ (by simp only [inv.dstsL, inv.putT, Nat.reduceAdd, List.set_cons_zero, List.set_cons_succ]; (try rfl)) hS (⟨none, rfl, trivial⟩) (fun _ _ h => h)
        · simp only [inv.dstsL, inv.putT, Nat.reduceAdd, List.set_cons_zero, List.set_cons_succ]
          have h0 : vs 0 = .pointer (some ⟨x, 1, none⟩) := (hD 0 (by kernel_rfl)).elim fun _ h => h.1
          obtain ⟨c0, c1, -, -⟩ := hS.cells
          rw [h0]
          go_simp
          exact hK _ _ _ (by simp only [inv.dstsL, inv.putT, Nat.reduceAdd, List.set_cons_zero, List.set_cons_succ, h0]; (try rfl)) hS (⟨none, rfl, trivial⟩) (fun _ _ h => h)
        · simp only [inv.dstsL, inv.putT, Nat.reduceAdd, List.set_cons_zero, List.set_cons_succ]
          go_simp
          exact hK _ _ _ (by simp only [inv.dstsL, inv.putT, Nat.reduceAdd, List.set_cons_zero, List.set_cons_succ]; (try rfl)) hS (⟨none, rfl, trivial⟩) (fun _ _ h => h)
        · simp only [inv.dstsL, inv.putT, Nat.reduceAdd, List.set_cons_zero, List.set_cons_succ]
          go_simp
          exact hK _ _ _ (by simp only [inv.dstsL, inv.putT, Nat.reduceAdd, List.set_cons_zero, List.set_cons_succ]; (try rfl)) hS (⟨none, rfl, trivial⟩) (fun _ _ h => h)
        · simp only [inv.dstsL, inv.putT, Nat.reduceAdd, List.set_cons_zero, List.set_cons_succ]
          have h2 : vs 2 = .pointer (some ⟨bd, 0, none⟩) := (hD 2 (by kernel_rfl)).elim fun _ h => h.1
          have h3 : vs 3 = .int .i64 ((M : Nat) : Int) := (hD 3 (by kernel_rfl)).elim fun _ h => h.1
          rw [h2, h3]
          go_simp
          refine (hS.game.next HR.out ((M : Nat) : Int) (by omega)).mono ?_; rintro e W2 ⟨r, rfl, r0, r1, hg2, hgb2⟩
          obtain ⟨k, rfl⟩ : ∃ k : Nat, r = k := ⟨r.toNat, by omega⟩
          have hk : k < M := by omega
          clear r0 r1
          go_wp2_with fail
          exact hK _ _ _ (by simp only [inv.dstsL, inv.putT, Nat.reduceAdd, List.set_cons_zero, List.set_cons_succ, h2, h3]; (try rfl)) (hS.kept hgb2 hg2) (⟨none, ⟨k, hk, rfl⟩, trivial⟩) (DA.kept (keep_gb hgb2))
        · simp only [inv.dstsL, inv.putT, Nat.reduceAdd, List.set_cons_zero, List.set_cons_succ]
          go_simp
          exact hK _ _ _ (by simp only [inv.dstsL, inv.putT, Nat.reduceAdd, List.set_cons_zero, List.set_cons_succ]; (try rfl)) hS (⟨none, rfl, trivial⟩) (fun _ _ h => h)
        · simp only [inv.dstsL, inv.putT, Nat.reduceAdd, List.set_cons_zero, List.set_cons_succ]
          go_simp
          exact hK _ _ _ (by simp only [inv.dstsL, inv.putT, Nat.reduceAdd, List.set_cons_zero, List.set_cons_succ]; (try rfl)) hS (⟨none, rfl, trivial⟩) (fun _ _ h => h)
        · simp only [inv.dstsL, inv.putT, Nat.reduceAdd, List.set_cons_zero, List.set_cons_succ]
          have h6 : vs 6 = .int .i64 (N : Int) := (hD 6 (by kernel_rfl)).elim fun _ h => h.1
          have hw : IntKind.i64.wrap ((N : Int) + 2) = ((N + 2 : Nat) : Int) := by rw [IntKind.wrap_i64]; omega
          rw [h6]
          go_simp
          exact hK _ _ _ (by simp only [inv.dstsL, inv.putT, Nat.reduceAdd, List.set_cons_zero, List.set_cons_succ, h6]; (try rfl)) hS (⟨none, rfl, trivial⟩) (fun _ _ h => h)
        · simp only [inv.dstsL, inv.putT, Nat.reduceAdd, List.set_cons_zero, List.set_cons_succ]
          have h5 : vs 5 = .pointer (some ⟨bd, 0, none⟩) := (hD 5 (by kernel_rfl)).elim fun _ h => h.1
          have h7 : vs 7 = .int .i64 (((N + 2) : Nat) : Int) := (hD 7 (by kernel_rfl)).elim fun _ h => h.1
          rw [h5, h7]
          go_simp
          refine (hS.game.next HR.out (((N + 2) : Nat) : Int) (by omega)).mono ?_; rintro e W2 ⟨r, rfl, r0, r1, hg2, hgb2⟩
          obtain ⟨k, rfl⟩ : ∃ k : Nat, r = k := ⟨r.toNat, by omega⟩
          have hk : k < (N + 2) := by omega
          clear r0 r1
          go_wp2_with fail
          exact hK _ _ _ (by simp only [inv.dstsL, inv.putT, Nat.reduceAdd, List.set_cons_zero, List.set_cons_succ, h5, h7]; (try rfl)) (hS.kept hgb2 hg2) (⟨none, ⟨k, hk, rfl⟩, trivial⟩) (DA.kept (keep_gb hgb2))
        · simp only [inv.dstsL, inv.putT, Nat.reduceAdd, List.set_cons_zero, List.set_cons_succ]
          obtain ⟨g8, ⟨k, hk, h8⟩, b8⟩ := hD 8 (by kernel_rfl)
          have hw : IntKind.i64.wrap ((k : Int) - 1) = (k : Int) - 1 := by rw [IntKind.wrap_i64]; omega
          rw [h8]
          go_simp
          exact hK _ _ _ (by simp only [inv.dstsL, inv.putT, Nat.reduceAdd, List.set_cons_zero, List.set_cons_succ, h8]; (try rfl)) hS (⟨none, ⟨(k : Int) - 1, by omega, by omega, rfl⟩, trivial⟩) (fun _ _ h => h)
        · simp only [inv.dstsL, inv.putT, Nat.reduceAdd, List.set_cons_zero, List.set_cons_succ]
          have h1 : vs 1 = .slice (some ⟨sb, 0, none⟩) M cd := (hD 1 (by kernel_rfl)).elim fun _ h => h.1
          obtain ⟨g4, ⟨k, hk, h4⟩, b4⟩ := hD 4 (by kernel_rfl)
          rw [h1, h4]
          go_simp
          exact hK _ _ _ (by simp only [inv.dstsL, inv.putT, Nat.reduceAdd, List.set_cons_zero, List.set_cons_succ, h1, h4]; (try rfl)) hS (⟨none, ⟨k, hk, rfl⟩, trivial⟩) (fun _ _ h => h)
        · simp only [inv.dstsL, inv.putT, Nat.reduceAdd, List.set_cons_zero, List.set_cons_succ]
          obtain ⟨g10, ⟨k, hk, h10⟩, b10⟩ := hD 10 (by kernel_rfl)
          rw [h10]
          go_simp
          exact hK _ _ _ (by simp only [inv.dstsL, inv.putT, Nat.reduceAdd, List.set_cons_zero, List.set_cons_succ, h10]; (try rfl)) hS (⟨none, ⟨k, hk, rfl⟩, trivial⟩) (fun _ _ h => h)
        · simp only [inv.dstsL, inv.putT, Nat.reduceAdd, List.set_cons_zero, List.set_cons_succ]
          obtain ⟨g11, ⟨k, hk, h11⟩, b11⟩ := hD 11 (by kernel_rfl)
          obtain ⟨g9, ⟨z, z0, z1, h9⟩, b9⟩ := hD 9 (by kernel_rfl)
          obtain ⟨u, cu, fu⟩ := hS.rowD k hk 3 (by decide)
          rw [h11, h9]
          go_simp
          exact hK undef _ _ (by simp only [inv.dstsL, inv.putT, Nat.reduceAdd, List.set_cons_zero, List.set_cons_succ, h11, h9]; (try rfl)) (hS.setD k hk 3 (by decide) (.int .i64 z) (fun y => { y with b := z }) (fun _ => rfl) (fun y hy => ⟨hy.1, hy.2.1, z0, z1, hy.2.2.2.2⟩)) (⟨none, trivial, trivial⟩) (DA.kept (keep_set _ (.inr rfl)))
      case rest =>
        intro vs W3 done hdone hS hD
        clear hD hdone
        simp only [inv.dstsL, inv.putT, Nat.reduceAdd, List.set_cons_zero, List.set_cons_succ]
        generalize vs 0 = y0, vs 1 = y1, vs 2 = y2, vs 3 = y3, vs 4 = y4, vs 5 = y5, vs 6 = y6, vs 7 = y7, vs 8 = y8, vs 9 = y9, vs 10 = y10, vs 11 = y11
        have HOS := Lib.hid hS
        obtain ⟨c0, c1, -, -⟩ := hS.cells
        obtain ⟨p, q, r0, r1, f0, f1⟩ := hS.rcells
        have PO := Lib.hid (odd_end hS)
        clear hS
        go_wp2
        exact bodyPost_ret (v := .agg #[.slice (some ⟨rb, 0, none⟩) N cn, .slice (some ⟨sb, 0, none⟩) M cd]) (by simp [results, Tryd.results14, go_sem, PO.out.1, PO.out.2.1]) rfl PO.out.2.2
    · go_wp2_with fail
      refine inv.wp_region_inv (fun _ W => OS w0 w W a len cap bd x (.slice (some ⟨rb, 0, none⟩) N cn) (.slice (some ⟨sb, 0, none⟩) M cd) N M) (DA (VA7 x bd rb cn sb cd N M) bd rb sb #[.int .i64 (-1), .int .i64 7, .int .i64 8] 3) (by kernel_rfl) (by kernel_rfl) OS2.out.drew ?steps ?rest
      case steps =>
        refine ⟨fun vs W done hS hD hno K hK => ?_, fun vs W done hS hD hno K hK => ?_, fun vs W done hS hD hno K hK => ?_, fun vs W done hS hD hno K hK => ?_, fun vs W done hS hD hno K hK => ?_, fun vs W done hS hD hno K hK => ?_, fun vs W done hS hD hno K hK => ?_, fun vs W done hS hD hno K hK => ?_, fun vs W done hS hD hno K hK => ?_, fun vs W done hS hD hno K hK => ?_, fun vs W done hS hD hno K hK => ?_, fun vs W done hS hD hno K hK => ?_, fun vs W done hS hD hno K hK => ?_, trivial⟩
        · simp only [inv.dstsL, inv.putT, Nat.reduceAdd, List.set_cons_zero, List.set_cons_succ]
          go_simp
          exact hK _ _ _ (by simp only [inv.dstsL, inv.putT, Nat.reduceAdd, List.set_cons_zero, List.set_cons_succ]; (try rfl)) hS (⟨none, rfl, trivial⟩) (fun _ _ h => h)
        · simp only [inv.dstsL, inv.putT, Nat.reduceAdd, List.set_cons_zero, List.set_cons_succ]
          have h0 : vs 0 = .pointer (some ⟨x, 1, none⟩) := (hD 0 (by kernel_rfl)).elim fun _ h => h.1
          obtain ⟨c0, c1, -, -⟩ := hS.cells
          rw [h0]
          go_simp
          exact hK _ _ _ (by simp only [inv.dstsL, inv.putT, Nat.reduceAdd, List.set_cons_zero, List.set_cons_succ, h0]; (try rfl)) hS (⟨none, rfl, trivial⟩) (fun _ _ h => h)
        · simp only [inv.dstsL, inv.putT, Nat.reduceAdd, List.set_cons_zero, List.set_cons_succ]
          go_simp
          exact hK _ _ _ (by simp only [inv.dstsL, inv.putT, Nat.reduceAdd, List.set_cons_zero, List.set_cons_succ]; (try rfl)) hS (⟨none, rfl, trivial⟩) (fun _ _ h => h)
        · simp only [inv.dstsL, inv.putT, Nat.reduceAdd, List.set_cons_zero, List.set_cons_succ]
          go_simp
          exact hK _ _ _ (by simp only [inv.dstsL, inv.putT, Nat.reduceAdd, List.set_cons_zero, List.set_cons_succ]; (try rfl)) hS (⟨none, rfl, trivial⟩) (fun _ _ h => h)
        · simp only [inv.dstsL, inv.putT, Nat.reduceAdd, List.set_cons_zero, List.set_cons_succ]
          have h2 : vs 2 = .pointer (some ⟨bd, 0, none⟩) := (hD 2 (by kernel_rfl)).elim fun _ h => h.1
          have h3 : vs 3 = .int .i64 ((M : Nat) : Int) := (hD 3 (by kernel_rfl)).elim fun _ h => h.1
          rw [h2, h3]
          go_simp
          refine (hS.game.next HR.out ((M : Nat) : Int) (by omega)).mono ?_; rintro e W2 ⟨r, rfl, r0, r1, hg2, hgb2⟩
          obtain ⟨k, rfl⟩ : ∃ k : Nat, r = k := ⟨r.toNat, by omega⟩
          have hk : k < M := by omega
          clear r0 r1
          go_wp2_with fail
          exact hK _ _ _ (by simp only [inv.dstsL, inv.putT, Nat.reduceAdd, List.set_cons_zero, List.set_cons_succ, h2, h3]; (try rfl)) (hS.kept hgb2 hg2) (⟨none, ⟨k, hk, rfl⟩, trivial⟩) (DA.kept (keep_gb hgb2))
        · simp only [inv.dstsL, inv.putT, Nat.reduceAdd, List.set_cons_zero, List.set_cons_succ]
          go_simp
          exact hK _ _ _ (by simp only [inv.dstsL, inv.putT, Nat.reduceAdd, List.set_cons_zero, List.set_cons_succ]; (try rfl)) (hS.alloc _) (⟨some W.heap.size, ⟨_, rfl, rfl⟩, heap_alloc_new _ _, hS.rlt⟩) (DA.kept (keep_new _))
        · simp only [inv.dstsL, inv.putT, Nat.reduceAdd, List.set_cons_zero, List.set_cons_succ]
          go_simp
          exact hK _ _ _ (by simp only [inv.dstsL, inv.putT, Nat.reduceAdd, List.set_cons_zero, List.set_cons_succ]; (try rfl)) hS (⟨none, rfl, trivial⟩) (fun _ _ h => h)
        · simp only [inv.dstsL, inv.putT, Nat.reduceAdd, List.set_cons_zero, List.set_cons_succ]
          have h6 : vs 6 = .pointer (some ⟨bd, 0, none⟩) := (hD 6 (by kernel_rfl)).elim fun _ h => h.1
          rw [h6]
          go_simp
          refine (hS.game.next HR.out ((3 : Nat) : Int) (by omega)).mono ?_; rintro e W2 ⟨r, rfl, r0, r1, hg2, hgb2⟩
          obtain ⟨k, rfl⟩ : ∃ k : Nat, r = k := ⟨r.toNat, by omega⟩
          have hk : k < 3 := by omega
          clear r0 r1
          go_wp2_with fail
          exact hK _ _ _ (by simp only [inv.dstsL, inv.putT, Nat.reduceAdd, List.set_cons_zero, List.set_cons_succ, h6]; (try rfl)) (hS.kept hgb2 hg2) (⟨none, ⟨k, hk, rfl⟩, trivial⟩) (DA.kept (keep_gb hgb2))
        · simp only [inv.dstsL, inv.putT, Nat.reduceAdd, List.set_cons_zero, List.set_cons_succ]
          obtain ⟨g5, ⟨B, rfl, h5⟩, b5⟩ := hD 5 (by kernel_rfl)
          obtain ⟨g7, ⟨k, hk, h7⟩, b7⟩ := hD 7 (by kernel_rfl)
          have hk2 : (k : Int) < 3 := by omega
          rw [h5, h7]
          go_simp
          exact hK _ _ _ (by simp only [inv.dstsL, inv.putT, Nat.reduceAdd, List.set_cons_zero, List.set_cons_succ, h5, h7]; (try rfl)) hS (⟨some B, ⟨B, k, rfl, hk, rfl⟩, b5⟩) (fun _ _ h => h)
        · simp only [inv.dstsL, inv.putT, Nat.reduceAdd, List.set_cons_zero, List.set_cons_succ]
          obtain ⟨g8, ⟨B, k, rfl, hk, h8⟩, b8⟩ := hD 8 (by kernel_rfl)
          obtain ⟨z, hs, hs2, hs3⟩ : ∃ z : Int, (#[.int .i64 (-1), .int .i64 7, .int .i64 8] : Array Value)[k]? = some (.int .i64 z) ∧ -9223372036854775808 ≤ z ∧ z ≤ 9223372036854775807 := by
            rcases (show k = 0 ∨ k = 1 ∨ k = 2 by omega) with rfl | rfl | rfl
            all_goals exact ⟨_, rfl, by decide, by decide⟩
          have c8 := (cell_at b8.1 k).1.trans hs
          rw [h8]
          go_simp
          exact hK _ _ _ (by simp only [inv.dstsL, inv.putT, Nat.reduceAdd, List.set_cons_zero, List.set_cons_succ, h8]; (try rfl)) hS (⟨none, ⟨z, hs2, hs3, rfl⟩, trivial⟩) (fun _ _ h => h)
        · simp only [inv.dstsL, inv.putT, Nat.reduceAdd, List.set_cons_zero, List.set_cons_succ]
          have h1 : vs 1 = .slice (some ⟨sb, 0, none⟩) M cd := (hD 1 (by kernel_rfl)).elim fun _ h => h.1
          obtain ⟨g4, ⟨k, hk, h4⟩, b4⟩ := hD 4 (by kernel_rfl)
          rw [h1, h4]
          go_simp
          exact hK _ _ _ (by simp only [inv.dstsL, inv.putT, Nat.reduceAdd, List.set_cons_zero, List.set_cons_succ, h1, h4]; (try rfl)) hS (⟨none, ⟨k, hk, rfl⟩, trivial⟩) (fun _ _ h => h)
        · simp only [inv.dstsL, inv.putT, Nat.reduceAdd, List.set_cons_zero, List.set_cons_succ]
          obtain ⟨g10, ⟨k, hk, h10⟩, b10⟩ := hD 10 (by kernel_rfl)
          rw [h10]
          go_simp
          exact hK _ _ _ (by simp only [inv.dstsL, inv.putT, Nat.reduceAdd, List.set_cons_zero, List.set_cons_succ, h10]; (try rfl)) hS (⟨none, ⟨k, hk, rfl⟩, trivial⟩) (fun _ _ h => h)
        · simp only [inv.dstsL, inv.putT, Nat.reduceAdd, List.set_cons_zero, List.set_cons_succ]
          obtain ⟨g11, ⟨k, hk, h11⟩, b11⟩ := hD 11 (by kernel_rfl)
          obtain ⟨g9, ⟨z, z0, z1, h9⟩, b9⟩ := hD 9 (by kernel_rfl)
          obtain ⟨u, cu, fu⟩ := hS.rowD k hk 4 (by decide)
          rw [h11, h9]
          go_simp
          exact hK undef _ _ (by simp only [inv.dstsL, inv.putT, Nat.reduceAdd, List.set_cons_zero, List.set_cons_succ, h11, h9]; (try rfl)) (hS.setD k hk 4 (by decide) (.int .i64 z) (fun y => { y with co := z }) (fun _ => rfl) (fun y hy => hy)) (⟨none, trivial, trivial⟩) (DA.kept (keep_set _ (.inr rfl)))
      case rest =>
        intro vs W3 done hdone hS hD
        clear hD hdone
        simp only [inv.dstsL, inv.putT, Nat.reduceAdd, List.set_cons_zero, List.set_cons_succ]
        generalize vs 0 = y0, vs 1 = y1, vs 2 = y2, vs 3 = y3, vs 4 = y4, vs 5 = y5, vs 6 = y6, vs 7 = y7, vs 8 = y8, vs 9 = y9, vs 10 = y10, vs 11 = y11
        have HOS := Lib.hid hS
        obtain ⟨c0, c1, -, -⟩ := hS.cells
        obtain ⟨p, q, r0, r1, f0, f1⟩ := hS.rcells
        have PO := Lib.hid (odd_end hS)
        clear hS
        go_wp2
        exact bodyPost_ret (v := .agg #[.slice (some ⟨rb, 0, none⟩) N cn, .slice (some ⟨sb, 0, none⟩) M cd]) (by simp [results, Tryd.results14, go_sem, PO.out.1, PO.out.2.1]) rfl PO.out.2.2
    · go_wp2_with fail
      go_loopw [7] (fun i wr => ∃ (j : Nat) (vd : Value), j ≤ 65 ∧ i = .int .i64 j ∧ Hid (OS w0 w wr a len cap bd x (.slice (some ⟨rb, 0, none⟩) N cn) vd N (M + j))) (fun i _ => 65 - (intOf i).toNat)
      case atStart => exact ⟨0, _, Nat.zero_le _, rfl, OS2.out⟩
      case round =>
        clear OS2
        obtain ⟨j, vd, hj, rfl, os⟩ := hrel
        by_cases hj65 : j ≤ 64
        · obtain ⟨L, hL⟩ : ∃ L, M + j = L := ⟨_, rfl⟩
          rw [hL] at os
          have hLM : 1 ≤ L ∧ L ≤ 130 := by omega
          have hL0 : 0 < L := by omega
          have HLL := Lib.hid hL
          clear hL
          obtain ⟨rb2, cn2, sb2, cd2, e1, e2, hrb2, hsb2, hcn3, hcn4, hcd3, hcd4, hrl2, hsl2⟩ := os.out.shapes hN1 (by omega)
          unfold maxLen at hcd4
          clear e1 hrb2 hcn3 hcn4 hrl2
          subst e2
          obtain ⟨c0, c1, f0, f1⟩ := os.out.cells
          obtain ⟨ns', ds', l1, l2, h3, h4, h5, h6⟩ := os.out.rows
          have H3 := Lib.hid h3
          have H4 := Lib.hid h4
          have H5 := Lib.hid h5
          have H6 := Lib.hid h6
          have L1 := Lib.hid l1
          have L2 := Lib.hid l2
          have hd0 : 0 < ds'.length := by rw [l2]; omega
          have HY := Lib.hid (h6 _ (List.getElem_mem hd0))
          obtain ⟨d0, d1, d2, d3, d4⟩ := cells_dv ((h4.shape encDv_len).elim (fun h => absurd h.1 (by simp)) (fun ⟨g, cap, e, q⟩ => by
            simp only [Value.slice.injEq, Option.some.injEq, Addr.mk.injEq, and_true] at e
            obtain ⟨rfl, -⟩ := e
            exact q.2.2.2.2.1)) 0 hd0
          simp only [Nat.zero_add, Nat.zero_mul] at d0 d1 d2 d3 d4
          obtain ⟨y, hy⟩ : ∃ y, ds'[0] = y := ⟨_, rfl⟩
          rw [hy] at d0 d1 d2 d3 d4 HY
          obtain ⟨nm, ki, da, db, co⟩ := y
          dsimp only at d0 d1 d2 d3 d4
          have a2 : ∀ o, (wr.alloc o).cell? ⟨x, 1, none⟩ = some (.slice (some ⟨sb2, 0, none⟩) L cd2) := fun o => (os.out.alloc o).cells.2.1
          have hwr := os.out.size
          have hM0 : (0 : Int) < (L : Int) := by omega
          clear h3 h4 h5 h6 l1 l2 hy c0 f0 f1 hd0
          go_wp2_with fail
          go_region_law (
            (refine step_push (enc := encDv) (k := 5) (T := 47) (by rfl) (.tmp 29) (.tmp 34) 24 (by rfl) (x + 2) j0 _ 48 Tryd.underlying24 ji jz0 jz1 jz2 rfl (by decide) encDv_len encDv_one (.slice (some ⟨sb2, 0, none⟩) L cd2) ds' L L2.out (by rfl) (H4.out.below (by repeat (first | exact Below.refl _ _ | apply Below.drew | apply below_drewN | refine Below.alloc ?_ (by simp) _))) wr.heap.size 1 ⟨nm, ki, da, db, co⟩ (by rfl) _ _ (by exact heap_alloc_new _ _) (by rfl) (by unfold maxLen; omega) (by omega) (by simp; omega) ?_
             intro a9 c9 w5 own5 gr5
             obtain ⟨c5, n5⟩ := os.out.pushD L1.out L2.out H3.out H4.out H5.out H6.out (by repeat (first | exact Below.refl _ _ | apply Below.drew | apply below_drewN | refine Below.alloc ?_ (by simp) _)) HY.out own5 gr5
             have e6 : M + (j + 1) = L + 1 := by have := HLL.out; omega
             have N5 : Hid (OS w0 w (w5.setCell ⟨x, 1, none⟩ (.slice a9 (L + 1) c9)) a len cap bd x (.slice (some ⟨rb, 0, none⟩) N cn) (.slice a9 (L + 1) c9) N (M + (j + 1))) := by show OS _ _ _ _ _ _ _ _ _ _ _ _; rw [e6]; exact n5
             clear e6
             obtain ⟨c5, f5⟩ := c5
             clear own5 gr5 n5))
          all_goals go_wp2
          all_goals go_roundw
          all_goals first
            | (case rel => exact ⟨j + 1, _, by omega, by go_num, N5⟩)
            | (case measure => simp [intOf]; omega)
        · obtain ⟨rb2, cn2, sb, cd, e1, e2, -⟩ := os.out.shapes hN1 (by omega)
          clear e1
          subst e2
          have hS := os.out
          clear os
          have T : decide ((j : Int) ≤ 64) = false := decide_eq_false (by omega)
          have HOS := Lib.hid hS
          obtain ⟨c0, c1, -, -⟩ := hS.cells
          obtain ⟨p, q, r0, r1, f0, f1⟩ := hS.rcells
          have PO := Lib.hid (odd_end hS)
          clear hS
          go_wp2
          exact bodyPost_ret (v := .agg #[.slice (some ⟨rb, 0, none⟩) N cn, .slice (some ⟨sb, 0, none⟩) (M + j) cd]) (by simp [results, Tryd.results14, go_sem, PO.out.1, PO.out.2.1]) rfl PO.out.2.2
end Go.Proofs.YtdgllaiejhnjmaaDoor.net
