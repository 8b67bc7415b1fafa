/- A network that is turned: the copy that mk.Odd makes and changes, in memory. No walk in this text. -/
import Derived.Test.YtdgllaiejhnjmaaDoorNetN
import Derived.Test.YtdgllaiejhnjmaaDoorPush
namespace Go.Proofs.YtdgllaiejhnjmaaDoor.net
open Go.RowKit lex aggs kit deck

/-- two rows of the call's own that are a network's: they can be read -/
def Rows2 (W : World) (base : Nat) (vn vd : Value) (N M : Nat) : Prop := ∃ ns ds, ns.length = N ∧ ds.length = M ∧ AggsAt 51 3 encNd W base vn ns ∧ AggsAt 47 5 encDv W base vd ds ∧ (∀ y ∈ ns, y.nm.size ≤ maxLen) ∧ ∀ y ∈ ds, Fits y
/-- the copy that Odd turns: a network in block x, the result's cells behind it, its rows of the call's own, the deck in block bd -/
structure OS (w0 w W : World) (a : Option Addr) (len cap bd x : Nat) (vn vd : Value) (N M : Nat) : Prop where
  game : Game w0 W bd a len cap
  grown : w.grownBy W (some bd)
  hx : w.heap.size = x
  lt : bd < x
  size : x + 2 ≤ W.heap.size
  net : ∃ T, W.heap[x]? = some (.cells #[vn, vd] T (0, 0))
  res : ∃ T p q, W.heap[x + 1]? = some (.cells #[p, q] T (0, 0))
  rows : Rows2 W (x + 2) vn vd N M
section
variable {w0 w W W' : World} {a : Option Addr} {len cap bd x : Nat} {vn vd : Value} {N M : Nat}
theorem OS.kept (h : OS w0 w W a len cap bd x vn vd N M) (hg : W.grownBy W' (some bd)) (hm : Game w0 W' bd a len cap) : OS w0 w W' a len cap bd x vn vd N M where
  game := hm
  grown := h.grown.andThen hg (fun j hj => by
    cases hj
    exact .inr rfl)
  hx := h.hx
  lt := h.lt
  size := Nat.le_trans h.size hg.size
  net := by obtain ⟨T, e⟩ := h.net; exact ⟨T, by rw [hg.block x (by have := h.size; omega) (by have := h.lt; simp; omega)]; exact e⟩
  res := by obtain ⟨T, p, q, e⟩ := h.res; exact ⟨T, p, q, by rw [hg.block (x + 1) (by have := h.size; omega) (by have := h.lt; simp; omega)]; exact e⟩
  rows := by
    obtain ⟨ns, ds, h1, h2, h3, h4, h5⟩ := h.rows
    exact ⟨ns, ds, h1, h2, h3.grown hg (fun k hk => by cases hk; have := h.lt; omega), h4.grown hg (fun k hk => by cases hk; have := h.lt; omega), h5⟩
theorem OS.below (h : OS w0 w W a len cap bd x vn vd N M) (b : Below W.heap.size W W') : OS w0 w W' a len cap bd x vn vd N M :=
  h.kept ⟨b.os, b.tape, b.output, b.size, fun k hk _ => b.block k hk⟩ (h.game.by_below b)
theorem OS.alloc (h : OS w0 w W a len cap bd x vn vd N M) (o : Obj) : OS w0 w (W.alloc o) a len cap bd x vn vd N M := h.below (below_box W o)
theorem OS.drew (h : OS w0 w W a len cap bd x vn vd N M) : OS w0 w W.drew a len cap bd x vn vd N M := h.kept (gb_drew (gb_refl W _)) h.game.drew
theorem OS.cells (h : OS w0 w W a len cap bd x vn vd N M) : W.cell? ⟨x, 0, none⟩ = some vn ∧ W.cell? ⟨x, 1, none⟩ = some vd ∧ W.frozen? ⟨x, 0, none⟩ = false ∧ W.frozen? ⟨x, 1, none⟩ = false := by
  obtain ⟨T, e⟩ := h.net; exact ⟨(cell_at e 0).1, (cell_at e 1).1, (cell_at e 0).2, (cell_at e 1).2⟩
theorem OS.rcells (h : OS w0 w W a len cap bd x vn vd N M) : ∃ p q, W.cell? ⟨x + 1, 0, none⟩ = some p ∧ W.cell? ⟨x + 1, 1, none⟩ = some q ∧ W.frozen? ⟨x + 1, 0, none⟩ = false ∧ W.frozen? ⟨x + 1, 1, none⟩ = false := by
  obtain ⟨T, p, q, e⟩ := h.res; exact ⟨p, q, (cell_at e 0).1, (cell_at e 1).1, (cell_at e 0).2, (cell_at e 1).2⟩
theorem OS.shapes (h : OS w0 w W a len cap bd x vn vd N M) (hN : 0 < N) (hM : 0 < M) : ∃ rb cn sb cd, vn = .slice (some ⟨rb, 0, none⟩) N cn ∧ vd = .slice (some ⟨sb, 0, none⟩) M cd ∧ x + 2 ≤ rb ∧ x + 2 ≤ sb ∧ N ≤ cn ∧ cn ≤ maxLen ∧ M ≤ cd ∧ cd ≤ maxLen ∧ rb < W.heap.size ∧ sb < W.heap.size := by
  obtain ⟨ns, ds, rfl, rfl, h3, h4, h5⟩ := h.rows
  rcases h3.shape encNd_len with ⟨_, e⟩ | ⟨rb, cn, e1, q1, q2, q3, q4, _⟩
  · rw [e] at hN; cases hN
  · rcases h4.shape encDv_len with ⟨_, e⟩ | ⟨sb, cd, e2, p1, p2, p3, p4, _⟩
    · rw [e] at hM; cases hM
    · exact ⟨rb, cn, sb, cd, e1, e2, q1, p1, q3, q4, p3, p4, q2, p2⟩
theorem OS.rowN {rb cn : Nat} (h : OS w0 w W a len cap bd x (.slice (some ⟨rb, 0, none⟩) N cn) vd N M) (r : Nat) (hr : r < N) (i : Nat) (hi : i < 3) : ∃ u, W.cell? ⟨rb, r * 3 + i, none⟩ = some u ∧ W.frozen? ⟨rb, r * 3 + i, none⟩ = false := by
  obtain ⟨ns, ds, rfl, rfl, h3, h4, h5⟩ := h.rows
  rcases h3.shape encNd_len with ⟨_, e⟩ | ⟨rb', cn', e1, q1, q2, q3, q4, q5, q6⟩
  · rw [e] at hr; cases hr
  · simp only [Value.slice.injEq, Option.some.injEq, Addr.mk.injEq, true_and, and_true] at e1
    obtain ⟨rfl, -⟩ := e1
    have hl : i < (encNd ns[r]).length := by rw [encNd_len]; exact hi
    have hu := List.getElem?_eq_getElem hl
    generalize (encNd ns[r])[i] = u at hu
    have := q5.get encNd_len r hr i hi u hu
    exact ⟨u, by rwa [Nat.zero_add] at this, q6 _⟩
theorem OS.rowD {sb cd : Nat} (h : OS w0 w W a len cap bd x vn (.slice (some ⟨sb, 0, none⟩) M cd) N M) (r : Nat) (hr : r < M) (i : Nat) (hi : i < 5) : ∃ u, W.cell? ⟨sb, r * 5 + i, none⟩ = some u ∧ W.frozen? ⟨sb, r * 5 + i, none⟩ = false := by
  obtain ⟨ns, ds, rfl, rfl, h3, h4, h5⟩ := h.rows
  rcases h4.shape encDv_len with ⟨_, e⟩ | ⟨rb', cn', e1, q1, q2, q3, q4, q5, q6⟩
  · rw [e] at hr; cases hr
  · simp only [Value.slice.injEq, Option.some.injEq, Addr.mk.injEq, true_and, and_true] at e1
    obtain ⟨rfl, -⟩ := e1
    have hl : i < (encDv ds[r]).length := by rw [encDv_len]; exact hi
    have hu := List.getElem?_eq_getElem hl
    generalize (encDv ds[r])[i] = u at hu
    have := q5.get encDv_len r hr i hi u hu
    exact ⟨u, by rwa [Nat.zero_add] at this, q6 _⟩
/-- what stays when a cell of a row of the call's own is set -/
theorem OS.stay (h : OS w0 w W a len cap bd x vn vd N M) {g i : Nat} (u : Value) (hg : x + 2 ≤ g) (hr : Rows2 (W.setCell ⟨g, i, none⟩ u) (x + 2) vn vd N M) : OS w0 w (W.setCell ⟨g, i, none⟩ u) a len cap bd x vn vd N M where
  game := h.game.grown (gb_set u (gb_refl W (some g))) (by have := h.lt; simp; omega) (fun k hk => by cases hk; have := h.game.mine; have := h.lt; omega)
  grown := gb_new u h.grown (by have := h.hx; omega)
  hx := h.hx
  lt := h.lt
  size := by have := h.size; simpa using this
  net := by obtain ⟨T, e⟩ := h.net; exact ⟨T, by rw [Below.heap_setCell _ _ _ _ (fun e => by dsimp only at e; omega)]; exact e⟩
  res := by obtain ⟨T, p, q, e⟩ := h.res; exact ⟨T, p, q, by rw [Below.heap_setCell _ _ _ _ (fun e => by dsimp only at e; omega)]; exact e⟩
  rows := hr
theorem mem_set2 {α : Type} {l : List α} {v : Nat} {x y : α} (h : y ∈ l.set v x) : y ∈ l ∨ y = x := by
  rcases List.mem_or_eq_of_mem_set h with h | h
  · exact .inl h
  · exact .inr h
theorem rows_apart {base T1 T2 k1 k2 n1 n2 : Nat} {v : Value} {xs ys : List Value} {rb cn N : Nat} (hne : T1 ≠ T2) (h3 : W.ownsRow base T1 k1 (.slice (some ⟨rb, 0, none⟩) N cn) n1 xs) (h4 : W.ownsRow base T2 k2 v n2 ys) : v.ownBlock = none ∨ v.ownBlock ≠ some rb := by
  right
  exact fun e => own_type h4 h3 (fun e => hne e.symm) rb e rfl
theorem OS.setN {rb cn : Nat} (h : OS w0 w W a len cap bd x (.slice (some ⟨rb, 0, none⟩) N cn) vd N M) (r : Nat) (hr : r < N) (i : Nat) (hi : i < 3) (u : Value) (f : Nd → Nd) (hf : ∀ z, encNd (f z) = (encNd z).set i u) (hs : ∀ z, z.nm.size ≤ maxLen → (f z).nm.size ≤ maxLen) :
    OS w0 w (W.setCell ⟨rb, r * 3 + i, none⟩ u) a len cap bd x (.slice (some ⟨rb, 0, none⟩) N cn) vd N M := by
  obtain ⟨ns, ds, h1, h2, h3, h4, h5, h6⟩ := h.rows
  have hrb : x + 2 ≤ rb := (World.ownsRow.lt h3 rb rfl).1
  refine h.stay u hrb ⟨ns.set r (f (ns[r]'(by omega))), ds, by rw [List.length_set]; exact h1, h2, ?_, ?_, ?_, h6⟩
  · exact (AggsAt.set h1 h3 encNd_len r (by omega) i hi _ u (hf _)).1
  · exact World.ownsRow.kept h4 (AggsAt.set h1 h3 encNd_len r (by omega) i hi _ u (hf _)).2 (rows_apart (by decide) h3 h4)
  · intro y hy
    rcases mem_set2 hy with hy | rfl
    · exact h5 y hy
    · exact hs _ (h5 _ (List.getElem_mem _))
theorem OS.setD {sb cd : Nat} (h : OS w0 w W a len cap bd x vn (.slice (some ⟨sb, 0, none⟩) M cd) N M) (r : Nat) (hr : r < M) (i : Nat) (hi : i < 5) (u : Value) (f : Dv → Dv) (hf : ∀ z, encDv (f z) = (encDv z).set i u) (hs : ∀ z, Fits z → Fits (f z)) :
    OS w0 w (W.setCell ⟨sb, r * 5 + i, none⟩ u) a len cap bd x vn (.slice (some ⟨sb, 0, none⟩) M cd) N M := by
  obtain ⟨ns, ds, h1, h2, h3, h4, h5, h6⟩ := h.rows
  have hrb : x + 2 ≤ sb := (World.ownsRow.lt h4 sb rfl).1
  refine h.stay u hrb ⟨ns, ds.set r (f (ds[r]'(by omega))), h1, by rw [List.length_set]; exact h2, ?_, ?_, h5, ?_⟩
  · exact World.ownsRow.kept h3 (AggsAt.set h2 h4 encDv_len r (by omega) i hi _ u (hf _)).2 (rows_apart (by decide) h4 h3)
  · exact (AggsAt.set h2 h4 encDv_len r (by omega) i hi _ u (hf _)).1
  · intro y hy
    rcases mem_set2 hy with hy | rfl
    · exact h6 y hy
    · exact hs _ (h6 _ (List.getElem_mem _))
/-- what Odd leaves -/
def OddPost (w0 w : World) (a : Option Addr) (len cap bd : Nat) (e : Ending) (w' : World) : Prop :=
  ∃ a' b' N c M d ns ds, e = .returned (.agg #[.slice a' N c, .slice b' M d]) ∧ NetIn w' a' b' N c M d ns ds ∧ (∀ p, a' = some p → p.block ≠ bd ∧ w.heap.size ≤ p.block) ∧ (∀ p, b' = some p → p.block ≠ bd ∧ w.heap.size ≤ p.block) ∧ Game w0 w' bd a len cap ∧ w.grownBy w' (some bd)
theorem rows_in2 {base : Nat} {vn vd : Value} (h : Rows2 W base vn vd N M) (hb : bd < base) (hw : w.heap.size ≤ base) : ∃ a' b' c d ns ds, vn = .slice a' N c ∧ vd = .slice b' M d ∧ NetIn W a' b' N c M d ns ds ∧ (∀ p, a' = some p → p.block ≠ bd ∧ w.heap.size ≤ p.block) ∧ (∀ p, b' = some p → p.block ≠ bd ∧ w.heap.size ≤ p.block) := by
  obtain ⟨ns, ds, h1, h2, h3, h4, h5, h6⟩ := h
  have l1 : ∃ a' c, vn = .slice a' N c ∧ RIn encNd 3 W a' ns ∧ N ≤ c ∧ c ≤ maxLen ∧ ∀ p, a' = some p → p.block ≠ bd ∧ w.heap.size ≤ p.block := by
    rcases h3.shape encNd_len with ⟨e, rfl⟩ | ⟨g, cap, e, q1, q2, q3, q4, q5, _⟩
    · obtain rfl : N = 0 := by simpa using h1.symm
      exact ⟨none, 0, e, .inl ⟨rfl, rfl⟩, Nat.le_refl _, Nat.zero_le _, fun p hp => by cases hp⟩
    · rw [h1] at e q3
      exact ⟨_, cap, e, .inr ⟨g, 0, rfl, q2, q5⟩, q3, q4, fun p hp => by cases hp; exact ⟨by dsimp only; omega, by dsimp only; omega⟩⟩
  have l2 : ∃ b' d, vd = .slice b' M d ∧ RIn encDv 5 W b' ds ∧ M ≤ d ∧ d ≤ maxLen ∧ ∀ p, b' = some p → p.block ≠ bd ∧ w.heap.size ≤ p.block := by
    rcases h4.shape encDv_len with ⟨e, rfl⟩ | ⟨g, cap, e, q1, q2, q3, q4, q5, _⟩
    · obtain rfl : M = 0 := by simpa using h2.symm
      exact ⟨none, 0, e, .inl ⟨rfl, rfl⟩, Nat.le_refl _, Nat.zero_le _, fun p hp => by cases hp⟩
    · rw [h2] at e q3
      exact ⟨_, cap, e, .inr ⟨g, 0, rfl, q2, q5⟩, q3, q4, fun p hp => by cases hp; exact ⟨by dsimp only; omega, by dsimp only; omega⟩⟩
  obtain ⟨a', c, e1, r1, c1, c2, k1⟩ := l1
  obtain ⟨b', d, e2, r2, d1, d2, k2⟩ := l2
  exact ⟨a', b', c, d, ns, ds, e1, e2, ⟨h1, h2, r1, r2, h5, h6, c1, c2, d1, d2⟩, k1, k2⟩
end
end Go.Proofs.YtdgllaiejhnjmaaDoor.net
