/- Joined texts (one file of a claim): RgF, RgJ, RbX, PgM, PgN, PgO, PgP, RgT, RtA. Each one's own remark stands before it. -/
import Derived.Test.YtceidbjjciejhaaDoorRgA
import Derived.Test.YtceidbjjciejhaaDoorMkNm
import Derived.Test.YtceidbjjciejhaaDoorRgI
import Derived.Test.YtceidbjjciejhaaDoorInv3
import Derived.Test.YtceidbjjciejhaaDoorRgP
import Derived.Test.YtceidbjjciejhaaDoorRgB
import Derived.Test.YtceidbjjciejhaaDoorPgL
import Derived.Test.YtceidbjjciejhaaDoorPgB
import Derived.Test.YtceidbjjciejhaaDoorPgK
import Derived.Test.YtceidbjjciejhaaDoorMwCB
import Derived.Test.YtceidbjjciejhaaDoorPgI
import Derived.Test.YtceidbjjciejhaaDoorMwL
import Derived.Test.YtceidbjjciejhaaDoorMwW
import Derived.Test.YtceidbjjciejhaaDoorLaidS
import Derived.Test.YtceidbjjciejhaaDoorPgW
import Derived.Test.YtceidbjjciejhaaDoorRgE

/- A person that is made of numbers: mk.Person. It is valid. No condition. -/
namespace Go.Proofs.YtceidbjjciejhaaDoor.reg
open Go.RowKit lex aggs kit net deck

/-- what mk.Person leaves -/
def PersonPost (w0 w : World) (a : Option Addr) (len cap bd : Nat) (e : Ending) (w' : World) : Prop :=
  ∃ p : Pn, e = .returned (pnV p) ∧ pnE p = 0 ∧ p.nm.size ≤ maxLen ∧ Game w0 w' bd a len cap ∧ w.grownBy w' (some bd)
theorem made_ok {k : Nat} {c s f u : Int} (hk : k < 100) (c0 : 0 ≤ c) (c1 : c < 3) (s0 : 0 ≤ s) (s1 : s < 32) (f0 : 0 ≤ f) (f1 : f < 2000) (u0 : 0 ≤ u) (u1 : u < 1500) : pnE ⟨nmB 80 k, c, s, f, f + 1 + u⟩ = 0 :=
  pnE_zero.2 ⟨nmB_name (by decide) hk, ⟨⟨c0, by dsimp only; omega⟩, s0, by dsimp only; omega⟩, f0, by dsimp only; omega, by dsimp only; omega⟩
theorem gb_tr {W W1 W2 : World} {bd : Nat} (h : W.grownBy W1 (some bd)) (g : W1.grownBy W2 (some bd)) : W.grownBy W2 (some bd) := h.andThen g (fun _ hj => .inr hj)
set_option maxRecDepth 100000 in
set_option maxHeartbeats 4000000 in
theorem person_is {w0 w : World} {a : Option Addr} {len cap bd : Nat} {zs : List Int} (g : Game w0 w bd a len cap) (hr : IsRow .i64 w0 a len cap zs) :
    Calls Tryd.prog 14 #[.pointer (some ⟨bd, 0, none⟩)] w (PersonPost w0 w a len cap bd) := by
  have HR := Lib.hid hr
  have hb0 := g.lt
  have hz := heap_alloc_new w (.cells #[.string ⟨#[]⟩, .int .i64 0, .int .i64 0, .int .i64 0, .int .i64 0] 32)
  have G1 := Lib.hid (g.alloc (.cells #[.string ⟨#[]⟩, .int .i64 0, .int .i64 0, .int .i64 0, .int .i64 0] 32))
  have B1 := Lib.hid (grown_alloc (gb_refl w (some bd)) (.cells #[.string ⟨#[]⟩, .int .i64 0, .int .i64 0, .int .i64 0, .int .i64 0] 32))
  obtain ⟨x, hx⟩ : ∃ x, w.heap.size = x := ⟨_, rfl⟩
  obtain ⟨W1, hW1⟩ : ∃ W, w.alloc (.cells #[.string ⟨#[]⟩, .int .i64 0, .int .i64 0, .int .i64 0, .int .i64 0] 32) = W := ⟨_, rfl⟩
  have hxl : x < W1.heap.size := by rw [← hW1, ← hx]; simp
  rw [hW1] at hz G1 B1
  rw [hx] at hz
  have HZ := Lib.hid hz
  have hxb : x ≠ bd := by omega
  clear hr g hz
  go_enter Tryd.func14, Tryd.ntmps14
  go_wp2_with fail
  refine (G1.out.next HR.out 2000 (by decide)).mono ?_; rintro e V1 ⟨f, rfl, f0, f1, gm, gb⟩
  have G2 := Lib.hid gm
  have B2 := Lib.hid (gb_tr B1.out gb)
  have R2 := Lib.hid gb
  clear gm gb
  rw [show max (2000 : Int) 1 = 2000 from rfl] at f1
  go_wp2_with fail
  refine (G2.out.next HR.out 12 (by decide)).mono ?_; rintro e V2 ⟨kk, rfl, k0, k1, gm, gb⟩
  rw [show max (12 : Int) 1 = 12 from rfl] at k1
  obtain ⟨k, rfl⟩ : ∃ k : Nat, kk = k := ⟨kk.toNat, by omega⟩
  have hk : k < 100 := by omega
  have G3 := Lib.hid gm
  have B3 := Lib.hid (gb_tr B2.out gb)
  have R3 := Lib.hid (gb_tr R2.out gb)
  clear gm gb k0 k1
  go_wp2_with fail
  refine (name_is 80 k V2 hk).mono ?_; rintro e w' ⟨rfl, rfl⟩
  have G4 := Lib.hid (G3.out.alloc (.cells #[.int .u8 (48 + k / 10 : Int), .int .u8 (48 + k % 10 : Int)] 5))
  have B4 := Lib.hid (grown_alloc B3.out (.cells #[.int .u8 (48 + k / 10 : Int), .int .u8 (48 + k % 10 : Int)] 5))
  have R4 := Lib.hid (grown_alloc R3.out (.cells #[.int .u8 (48 + k / 10 : Int), .int .u8 (48 + k % 10 : Int)] 5))
  go_wp2_with fail
  refine (G4.out.next HR.out 3 (by decide)).mono ?_; rintro e V5 ⟨c, rfl, c0, c1, gm, gb⟩
  rw [show max (3 : Int) 1 = 3 from rfl] at c1
  have G5 := Lib.hid gm
  have B5 := Lib.hid (gb_tr B4.out gb)
  have R5 := Lib.hid (gb_tr R4.out gb)
  clear gm gb
  go_wp2_with fail
  refine (G5.out.next HR.out 32 (by decide)).mono ?_; rintro e V6 ⟨s, rfl, s0, s1, gm, gb⟩
  rw [show max (32 : Int) 1 = 32 from rfl] at s1
  have G6 := Lib.hid gm
  have B6 := Lib.hid (gb_tr B5.out gb)
  have R6 := Lib.hid (gb_tr R5.out gb)
  clear gm gb
  have hw1 : IntKind.i64.wrap (f + 1) = f + 1 := by rw [IntKind.wrap_i64]; omega
  go_wp2_with fail
  refine (G6.out.next HR.out 1500 (by decide)).mono ?_; rintro e V7 ⟨u, rfl, u0, u1, gm, gb⟩
  rw [show max (1500 : Int) 1 = 1500 from rfl] at u1
  have G7 := Lib.hid gm
  have B7 := Lib.hid (gb_tr B6.out gb)
  have R7 := Lib.hid (gb_tr R6.out gb)
  clear gm gb
  have hw2 : IntKind.i64.wrap (f + 1 + u) = f + 1 + u := by rw [IntKind.wrap_i64]; omega
  have hz7 : V7.heap[x]? = some (.cells #[.string ⟨#[]⟩, .int .i64 0, .int .i64 0, .int .i64 0, .int .i64 0] 32 (0, 0)) := by rw [R7.out.block x hxl (by simp; exact hxb)]; exact HZ.out
  have OKP := Lib.hid (made_ok hk c0 c1 s0 s1 f0 f1 u0 u1)
  obtain ⟨q0, z0⟩ := cell_at hz7 0
  obtain ⟨q1, z1⟩ := cell_at hz7 1
  obtain ⟨q2, z2⟩ := cell_at hz7 2
  obtain ⟨q3, z3⟩ := cell_at hz7 3
  obtain ⟨q4, z4⟩ := cell_at hz7 4
  have e1 := set_at (i := 0) (.string (nmB 80 k)) hz7
  have e2 := set_at (i := 1) (.int .i64 c) e1
  have e3 := set_at (i := 2) (.int .i64 s) e2
  have e4 := set_at (i := 3) (.int .i64 f) e3
  have e5 := set_at (i := 4) (.int .i64 (f + 1 + u)) e4
  obtain ⟨V8, hV8⟩ : ∃ W, ((((V7.setCell ⟨x, 0, none⟩ (.string (nmB 80 k))).setCell ⟨x, 1, none⟩ (.int .i64 c)).setCell ⟨x, 2, none⟩ (.int .i64 s)).setCell ⟨x, 3, none⟩ (.int .i64 f)).setCell ⟨x, 4, none⟩ (.int .i64 (f + 1 + u)) = W := ⟨_, rfl⟩
  rw [hV8] at e5
  have E5 := Lib.hid e5
  have gs : V7.grownBy V8 (some x) := by
    rw [← hV8]
    exact gb_set _ (gb_set _ (gb_set _ (gb_set _ (gb_set _ (gb_refl V7 (some x))))))
  have G8 := Lib.hid (G7.out.grown gs (by simp; omega) (fun j hj => by cases hj; have := G7.out.mine; omega))
  have B8 : Hid (w.grownBy V8 (some bd)) := B7.out.andThen gs (fun j hj => by cases hj; exact .inl (by omega))
  have p0 := (cell_at e5 0).1
  have p1 := (cell_at e5 1).1
  have p2 := (cell_at e5 2).1
  have p3 := (cell_at e5 3).1
  have p4 := (cell_at e5 4).1
  clear e1 e2 e3 e4 e5 hz7 gs f0 f1 c0 c1 s0 s1 u0 u1
  go_wp2
  first | rw [hV8] | skip
  exact bodyPost_ret (v := pnV ⟨nmB 80 k, c, s, f, f + 1 + u⟩) (by simp [results, Tryd.results14, go_sem, p0, p1, p2, p3, p4, pnV]) rfl ⟨_, rfl, OKP.out, by simp [nmB, ByteArray.size, maxLen], G8.out, B8.out⟩
end Go.Proofs.YtceidbjjciejhaaDoor.reg

/- The walk of 'some' of the statements of layer 5: a register that is made of numbers. It is valid. No condition. -/
namespace Go.Proofs.YtceidbjjciejhaaDoor.reg
open Go.RowKit lex aggs kit net deck

/-- a register is kept while another block is written, in which no text lies -/
theorem RegIn.other {W W' : World} {a : Option Addr} {N c b : Nat} {ps : List Pn} (h : RegIn W a N c ps) (hs : ∀ i s, W.cell? ⟨b, i, none⟩ ≠ some (.string s)) (hg : W.grownBy W' (some b)) : RegIn W' a N c ps := by
  refine { h with rin := ?_ }
  rcases h.rin with h1 | ⟨g, o, e, hl, hc⟩
  · exact .inl h1
  · refine .inr ⟨g, o, e, Nat.lt_of_lt_of_le hl hg.size, ?_⟩
    cases ps with
    | nil => intro i u hu; simp [flat] at hu
    | cons p r =>
      have hne : g ≠ b := by
        rintro rfl
        exact hs _ _ (cells_pn hc 0 (by simp)).1
      intro i u hu
      exact (World.cell?_of_block (a := ⟨g, o + i, none⟩) (hg.block g hl (by simpa using hne))).trans (hc i u hu)
theorem RegIn.far {W W' : World} {a la : Option Addr} {N c bd len cap : Nat} {ps : List Pn} (h : RegIn W a N c ps) (hd : IsDeck W bd la len cap) (hg : W.grownBy W' (some bd)) : RegIn W' a N c ps := by
  refine h.other (fun o s c0 => ?_) hg
  obtain ⟨k, s', -, -, -, hb⟩ := hd
  simp only [World.cell?, hb] at c0
  match o, c0 with
  | 0, c0 => simp at c0
  | 1, c0 => simp at c0
  | 2, c0 => simp at c0
  | o + 3, c0 => simp at c0
theorem RegIn.box {W W' : World} {a y : Option Addr} {N c b T m k : Nat} {ps : List Pn} (h : RegIn W a N c ps) (hb : W.heap[b]? = some (.cells #[.slice y m k] T (0, 0))) (hg : W.grownBy W' (some b)) : RegIn W' a N c ps := by
  refine h.other (fun o s c0 => ?_) hg
  simp only [World.cell?, hb] at c0
  match o, c0 with
  | 0, c0 => simp at c0
  | o + 1, c0 => simp at c0
theorem gb_of_below {W W' : World} (h : Below W.heap.size W W') (row : Option Nat) : W.grownBy W' row := ⟨h.os, h.tape, h.output, h.size, fun k hk _ => h.block k hk⟩
theorem add_ok {ps : List Pn} {p : Pn} (h : Ok ps) (hp : pnE p = 0) : Ok (addP ps p).1 ∧ (addP ps p).1.length ≤ ps.length + 1 := by
  by_cases e : (addP ps p).2 = 0
  · obtain ⟨-, -, -, -, h5, h6⟩ := addP_ok e
    exact ⟨by rw [h5]; exact h6, by rw [h5, ins_pos, List.length_append, List.length_cons, List.length_take, List.length_drop]; omega⟩
  · have : (addP ps p).1 = [] := by
      unfold addP at e ⊢
      rw [if_neg (by simp [chkP_zero.2 h]), if_neg (by simp [hp])] at e ⊢
      by_cases h3 : fnd (nmsP ps) p.nm = -1
      · rw [if_neg (by simp [h3])] at e ⊢
        by_cases h4 : 64 ≤ ps.length
        · rw [if_pos h4]
        · rw [if_neg h4] at e; exact absurd rfl e
      · rw [if_pos h3]
    rw [this]
    exact ⟨⟨Nat.zero_le _, (fun _ h => by cases h), List.Pairwise.nil⟩, Nat.zero_le _⟩
/-- what 'some' leaves -/
def SomePost (w0 w : World) (la : Option Addr) (len cap bd : Nat) (e : Ending) (w' : World) : Prop :=
  ∃ a N c ps, e = .returned (.agg #[.slice a N c]) ∧ RegIn w' a N c ps ∧ Ok ps ∧ ps.length ≤ 6 ∧ Game w0 w' bd la len cap ∧ w.grownBy w' (some bd)
/-- while somebody is added -/
def SAdd (w0 w : World) (la : Option Addr) (len cap bd n : Nat) (done : Nat → Bool) (vs : Nat → Value) (W : World) : Prop :=
  Game w0 W bd la len cap ∧ w.grownBy W (some bd) ∧ (done 8 = true → ∃ B a N c qs, vs 7 = .pointer (some ⟨B, 0, none⟩) ∧ W.heap[B]? = some (.cells #[.slice a N c] 29 (0, 0)) ∧ B ≠ bd ∧ w.heap.size ≤ B ∧ RegIn W a N c qs ∧ Ok qs ∧ qs.length ≤ n + 1)
theorem SAdd.step {w0 w W W' : World} {la : Option Addr} {len cap bd n : Nat} {done done' : Nat → Bool} {vs vs' : Nat → Value} (h : SAdd w0 w la len cap bd n done vs W) (g : Game w0 W' bd la len cap) (hg : W.grownBy W' (some bd)) (hd : done' 8 = true → done 8 = true) (hv : done 8 = true → vs' 7 = vs 7) : SAdd w0 w la len cap bd n done' vs' W' := by
  obtain ⟨h1, h2, h3⟩ := h
  refine ⟨g, gb_tr h2 hg, fun h8 => ?_⟩
  obtain ⟨B, a, N, c, qs, q1, q2, q3, q4, q5, q6, q7⟩ := h3 (hd h8)
  exact ⟨B, a, N, c, qs, by rw [hv (hd h8)]; exact q1, by rw [hg.block B (lt_of_block q2) (by simpa using q3)]; exact q2, q3, q4, q5.far h1.deck hg, q6, q7⟩
theorem SAdd.mark {w0 w W : World} {la : Option Addr} {len cap bd n : Nat} {done : Nat → Bool} {vs : Nat → Value} (h : SAdd w0 w la len cap bd n done vs W) (i : Nat) (v : Value) (h8 : i ≠ 8) (h7 : i ≠ 7) : SAdd w0 w la len cap bd n (fun j => if j = i then true else done j) (inv.upd vs i v) W :=
  h.step h.1 (gb_refl W _) (fun q => by simpa [h8.symm] using q) (fun _ => if_neg (fun e => h7 e.symm))
def DSm (bd : Nat) (a : Option Addr) (N c n z : Nat) : Nat → Value → World → Prop
  | 0, v, _ => v = .agg #[.slice a N c]
  | 1, v, _ => v = .pointer (some ⟨bd, 0, none⟩)
  | 2, v, _ => ∃ p : Pn, v = pnV p ∧ pnE p = 0 ∧ p.nm.size ≤ maxLen
  | 3, v, W => ∃ a' N' c' qs E, v = .tuple #[.agg #[.slice a' N' c'], .int .i64 E] ∧ RegIn W a' N' c' qs ∧ Ok qs ∧ qs.length ≤ n + 1
  | 4, v, W => ∃ a' N' c' qs E, v = .tuple #[.agg #[.slice a' N' c'], .int .i64 E] ∧ RegIn W a' N' c' qs ∧ Ok qs ∧ qs.length ≤ n + 1
  | 5, v, W => ∃ a' N' c' qs, v = .agg #[.slice a' N' c'] ∧ RegIn W a' N' c' qs ∧ Ok qs ∧ qs.length ≤ n + 1
  | 6, v, _ => ∃ E : Int, v = .int .i64 E
  | 7, v, W => ∃ B y0 y1 y2, v = .pointer (some ⟨B, 0, none⟩) ∧ W.heap[B]? = some (.cells #[.slice y0 y1 y2] 29 (0, 0)) ∧ B ≠ bd ∧ z ≤ B
  | 9, v, _ => ∃ E : Int, v = .int .i64 E
  | _, _, _ => True
theorem _root_.Go.World.grownBy.block_at {W W' : World} {row : Option Nat} {b : Nat} {o : Obj} (h : W.grownBy W' row) (hb : W.heap[b]? = some o) (hl : b < W.heap.size) (hne : some b ≠ row) : W'.heap[b]? = some o := by rw [h.block b hl hne]; exact hb
theorem DSm.kept {bd : Nat} {a la : Option Addr} {N c n z len cap : Nat} {W W' : World} (hd : IsDeck W bd la len cap) (hg : W.grownBy W' (some bd)) : ∀ j v, DSm bd a N c n z j v W → DSm bd a N c n z j v W'
  | 0, _, h | 1, _, h | 2, _, h | 6, _, h | 8, _, h | 9, _, h | _ + 10, _, h => h
  | 3, _, ⟨a', N', c', qs, E, h1, h2, h3⟩ => ⟨a', N', c', qs, E, h1, h2.far hd hg, h3⟩
  | 4, _, ⟨a', N', c', qs, E, h1, h2, h3⟩ => ⟨a', N', c', qs, E, h1, h2.far hd hg, h3⟩
  | 5, _, ⟨a', N', c', qs, h1, h2, h3⟩ => ⟨a', N', c', qs, h1, h2.far hd hg, h3⟩
  | 7, _, ⟨B, y0, y1, y2, h1, h2, h3⟩ => ⟨B, y0, y1, y2, h1, by rw [hg.block B (lt_of_block h2) (by simpa using h3.1)]; exact h2, h3⟩
theorem DSm.kept3 {bd b m k m' k' : Nat} {a y y' : Option Addr} {N c n z : Nat} {W W' : World} (hb : W.heap[b]? = some (.cells #[.slice y m k] 29 (0, 0))) (hb' : W'.heap[b]? = some (.cells #[.slice y' m' k'] 29 (0, 0))) (hg : W.grownBy W' (some b)) : ∀ j v, DSm bd a N c n z j v W → DSm bd a N c n z j v W'
  | 0, _, h | 1, _, h | 2, _, h | 6, _, h | 8, _, h | 9, _, h | _ + 10, _, h => h
  | 3, _, ⟨a', N', c', qs, E, h1, h2, h3⟩ => ⟨a', N', c', qs, E, h1, h2.box hb hg, h3⟩
  | 4, _, ⟨a', N', c', qs, E, h1, h2, h3⟩ => ⟨a', N', c', qs, E, h1, h2.box hb hg, h3⟩
  | 5, _, ⟨a', N', c', qs, h1, h2, h3⟩ => ⟨a', N', c', qs, h1, h2.box hb hg, h3⟩
  | 7, _, ⟨B, y0, y1, y2, h1, h2, h3⟩ => by
    by_cases e : B = b
    · subst e; exact ⟨B, _, _, _, h1, hb', h3⟩
    · exact ⟨B, y0, y1, y2, h1, by rw [hg.block B (lt_of_block h2) (by simpa using e)]; exact h2, h3⟩
set_option maxRecDepth 100000 in
set_option maxHeartbeats 4000000 in
theorem some_is {W0 w : World} {la : Option Addr} {len cap bd : Nat} {zs : List Int} (g : Game W0 w bd la len cap) (hr : IsRow .i64 W0 la len cap zs) :
    Calls Tryd.prog 10 #[.pointer (some ⟨bd, 0, none⟩)] w (SomePost W0 w la len cap bd) := by
  have HR0 := Lib.hid hr
  have hb0 := g.lt
  have hz := heap_alloc_new w (.cells #[.slice none 0 0] 29)
  have hz2 := heap_alloc_new (w.alloc (.cells #[.slice none 0 0] 29)) (.cells #[.slice none 0 0] 29)
  have hz1 : ((w.alloc (.cells #[.slice none 0 0] 29)).alloc (.cells #[.slice none 0 0] 29)).heap[w.heap.size]? = _ := ((below_box (w.alloc (.cells #[.slice none 0 0] 29)) (.cells #[.slice none 0 0] 29)).block w.heap.size (by simp)).trans hz
  have G1 := Lib.hid ((g.alloc (.cells #[.slice none 0 0] 29)).alloc (.cells #[.slice none 0 0] 29))
  have B1 := Lib.hid (grown_alloc (grown_alloc (gb_refl w (some bd)) (.cells #[.slice none 0 0] 29)) (.cells #[.slice none 0 0] 29))
  rw [World.size_alloc] at hz2
  obtain ⟨x, hx⟩ : ∃ x, w.heap.size = x := ⟨_, rfl⟩
  obtain ⟨W1, hW1⟩ : ∃ W, (w.alloc (.cells #[.slice none 0 0] 29)).alloc (.cells #[.slice none 0 0] 29) = W := ⟨_, rfl⟩
  rw [hW1] at hz1 hz2 G1 B1
  rw [hx] at hz1 hz2 hb0
  have HZ1 := Lib.hid hz1
  have HZ2 := Lib.hid hz2
  have hxb : x ≠ bd := by omega
  have hxb1 : x + 1 ≠ bd := by omega
  clear hr g hz hz1 hz2
  go_enter Tryd.func10, Tryd.ntmps10
  go_wp2_with fail
  refine (G1.out.next HR0.out 7 (by decide)).mono ?_; rintro e V1 ⟨k, rfl, k0, k1, gm, gb⟩
  rw [show max (7 : Int) 1 = 7 from rfl] at k1
  obtain ⟨k, rfl⟩ : ∃ k' : Nat, k = k' := ⟨k.toNat, by omega⟩
  have GV := Lib.hid gm
  have BV := Lib.hid (gb_tr B1.out gb)
  have Z1 := Lib.hid (gb.block_at HZ1.out (lt_of_block HZ1.out) (by simpa using hxb))
  have Z2 := Lib.hid (gb.block_at HZ2.out (lt_of_block HZ2.out) (by simpa using hxb1))
  clear gm gb k0
  go_wp2
  go_loopw [4] (fun i wr => ∃ (k : Nat) (a : Option Addr) (N c : Nat) (ps : List Pn), i = .int .i64 k ∧ k ≤ 6 ∧ Hid (Game W0 wr bd la len cap) ∧ Hid (w.grownBy wr (some bd)) ∧ Hid (wr.heap[x]? = some (.cells #[.slice none 0 0] 29 (0, 0))) ∧ Hid (wr.heap[x + 1]? = some (.cells #[.slice a N c] 29 (0, 0))) ∧ Hid (RegIn wr a N c ps) ∧ Hid (Ok ps) ∧ Hid (ps.length + k ≤ 6)) (fun i _ => (intOf i).toNat)
  case atStart => exact ⟨k, none, 0, 0, [], rfl, by omega, GV.out, BV.out, Z1.out, Z2.out, reg_nil _, ⟨Nat.zero_le _, (fun _ h => by cases h), List.Pairwise.nil⟩, by show 0 + k ≤ 6; omega⟩
  case round =>
    obtain ⟨k, a, N, c, ps, rfl, hk6, GX, GB, BX1, BX, REG, OKP, LN⟩ := hrel
    by_cases hk : 0 < k
    · have T1 : decide ((0 : Int) < (k : Int)) = true := decide_eq_true (by omega)
      have hwk : IntKind.i64.wrap ((k : Int) - 1) = ((k - 1 : Nat) : Int) := by rw [IntKind.wrap_i64]; omega
      have BXL := Lib.hid (lt_of_block BX.out)
      have BXN : Hid (some (x + 1) ≠ some bd) := by show _ ≠ _; simpa using hxb1
      have GD := Lib.hid GX.out.deck
      have HS0 : Hid (∀ yh, SAdd W0 wr la len cap bd ps.length (fun _ => false) yh wr.drew) := fun yh => ⟨GX.out.drew, gb_drew (gb_refl wr _), fun h => by cases h⟩
      go_wp2_with fail
      go_wp2
      refine inv.wp_region_inv3 (SAdd W0 wr la len cap bd ps.length) (DSm bd a N c ps.length wr.heap.size) (by kernel_rfl) (by kernel_rfl) (HS0.out _) ?steps ?rest
      case steps =>
        refine ⟨fun vs W done hS hD hno hold hcl hme K hK => ?_, fun vs W done hS hD hno hold hcl hme K hK => ?_, fun vs W done hS hD hno hold hcl hme K hK => ?_, fun vs W done hS hD hno hold hcl hme K hK => ?_, fun vs W done hS hD hno hold hcl hme K hK => ?_, fun vs W done hS hD hno hold hcl hme K hK => ?_, fun vs W done hS hD hno hold hcl hme K hK => ?_, fun vs W done hS hD hno hold hcl hme K hK => ?_, fun vs W done hS hD hno hold hcl hme K hK => ?_, fun vs W done hS hD hno hold hcl hme K hK => ?_, trivial⟩
        · clear hold; clear hcl; simp only [inv.dstsL, inv.putT, Nat.reduceAdd, List.set_cons_zero, List.set_cons_succ]
          have c0 := (cell_at (hS.2.1.block_at BX.out BXL.out BXN.out) 0).1
          go_simp
          exact hK _ _ _ (by simp only [inv.dstsL, inv.putT, Nat.reduceAdd, List.set_cons_zero, List.set_cons_succ]; (try rfl)) (hS.mark 0 _ (by decide) (by decide)) (rfl) (fun _ _ _ _ h => h)
        · clear hold; clear hcl; simp only [inv.dstsL, inv.putT, Nat.reduceAdd, List.set_cons_zero, List.set_cons_succ]
          go_simp
          exact hK _ _ _ (by simp only [inv.dstsL, inv.putT, Nat.reduceAdd, List.set_cons_zero, List.set_cons_succ]; (try rfl)) (hS.mark 1 _ (by decide) (by decide)) (rfl) (fun _ _ _ _ h => h)
        · clear hold; clear hcl; simp only [inv.dstsL, inv.putT, Nat.reduceAdd, List.set_cons_zero, List.set_cons_succ]
          have h1 : (vs 1) = .pointer (some ⟨bd, 0, none⟩) := hD 1 (by kernel_rfl)
          rw [h1]
          go_simp
          refine (person_is hS.1 HR0.out).mono ?_; rintro e W2 ⟨p, rfl, p0, p1, g2, gb2⟩
          exact hK _ _ _ (by simp only [inv.dstsL, inv.putT, Nat.reduceAdd, List.set_cons_zero, List.set_cons_succ, h1]; (try rfl)) (hS.step g2 gb2 (fun q => by simpa using q) (fun _ => rfl)) (⟨p, rfl, p0, p1⟩) (fun j v _ _ => (DSm.kept hS.1.deck gb2) j v)
        · clear hold; clear hcl; simp only [inv.dstsL, inv.putT, Nat.reduceAdd, List.set_cons_zero, List.set_cons_succ]
          have h0 : (vs 0) = .agg #[.slice a N c] := hD 0 (by kernel_rfl)
          have h2 : ∃ p : Pn, (vs 2) = pnV p ∧ pnE p = 0 ∧ p.nm.size ≤ maxLen := hD 2 (by kernel_rfl)
          obtain ⟨p, h2, p0, p1⟩ := h2
          rw [h0, h2]
          go_simp
          have hreg := REG.out.far GD.out hS.2.1
          refine (radd_is a N c ps p W hreg p1).mono ?_; rintro e W2 ⟨a', N', c', rfl, g2, b2⟩
          have ao := add_ok OKP.out p0
          exact hK _ _ _ (by simp only [inv.dstsL, inv.putT, Nat.reduceAdd, List.set_cons_zero, List.set_cons_succ, h0, h2]; (try rfl)) (hS.step (hS.1.by_below b2) (gb_of_below b2 _) (fun q => by simpa using q) (fun _ => rfl)) (⟨_, _, _, _, _, rfl, g2, ao.1, ao.2⟩) (fun j v _ _ => (DSm.kept hS.1.deck (gb_of_below b2 _)) j v)
        · clear hold; clear hcl; simp only [inv.dstsL, inv.putT, Nat.reduceAdd, List.set_cons_zero, List.set_cons_succ]
          have h3 : ∃ a' N' c' qs E, (vs 3) = .tuple #[.agg #[.slice a' N' c'], .int .i64 E] ∧ RegIn W a' N' c' qs ∧ Ok qs ∧ qs.length ≤ ps.length + 1 := hD 3 (by kernel_rfl)
          obtain ⟨a', N', c', qs, E, h3, r1, r2, r3⟩ := h3
          rw [h3]
          go_simp
          exact hK _ _ _ (by simp only [inv.dstsL, inv.putT, Nat.reduceAdd, List.set_cons_zero, List.set_cons_succ, h3]; (try rfl)) (hS.mark 4 _ (by decide) (by decide)) (⟨_, _, _, _, _, rfl, r1, r2, r3⟩) (fun _ _ _ _ h => h)
        · clear hold; clear hcl; simp only [inv.dstsL, inv.putT, Nat.reduceAdd, List.set_cons_zero, List.set_cons_succ]
          have h4 : ∃ a' N' c' qs E, (vs 4) = .tuple #[.agg #[.slice a' N' c'], .int .i64 E] ∧ RegIn W a' N' c' qs ∧ Ok qs ∧ qs.length ≤ ps.length + 1 := hD 4 (by kernel_rfl)
          obtain ⟨a', N', c', qs, E, h4, r1, r2, r3⟩ := h4
          rw [h4]
          go_simp
          exact hK _ _ _ (by simp only [inv.dstsL, inv.putT, Nat.reduceAdd, List.set_cons_zero, List.set_cons_succ, h4]; (try rfl)) (hS.mark 5 _ (by decide) (by decide)) (⟨_, _, _, _, rfl, r1, r2, r3⟩) (fun _ _ _ _ h => h)
        · clear hold; clear hcl; simp only [inv.dstsL, inv.putT, Nat.reduceAdd, List.set_cons_zero, List.set_cons_succ]
          have h4 : ∃ a' N' c' qs E, (vs 4) = .tuple #[.agg #[.slice a' N' c'], .int .i64 E] ∧ RegIn W a' N' c' qs ∧ Ok qs ∧ qs.length ≤ ps.length + 1 := hD 4 (by kernel_rfl)
          obtain ⟨a', N', c', qs, E, h4, r1, r2, r3⟩ := h4
          rw [h4]
          go_simp
          exact hK _ _ _ (by simp only [inv.dstsL, inv.putT, Nat.reduceAdd, List.set_cons_zero, List.set_cons_succ, h4]; (try rfl)) (hS.mark 6 _ (by decide) (by decide)) (⟨_, rfl⟩) (fun _ _ _ _ h => h)
        · clear hold; clear hcl; simp only [inv.dstsL, inv.putT, Nat.reduceAdd, List.set_cons_zero, List.set_cons_succ]
          have hne : W.heap.size ≠ bd := Nat.ne_of_gt hS.1.lt
          have d8 := hno 8 (by kernel_rfl)
          have bxx := below_box W (.cells #[.slice none 0 0] 29)
          have hnew := heap_alloc_new W (.cells #[.slice none 0 0] 29)
          go_simp
          exact hK _ _ _ (by simp only [inv.dstsL, inv.putT, Nat.reduceAdd, List.set_cons_zero, List.set_cons_succ]; (try rfl)) (hS.step (hS.1.by_below bxx) (gb_of_below bxx _) (fun q => by simpa using q) (fun q => by rw [d8] at q; cases q)) (⟨_, _, _, _, rfl, hnew, hne, hS.2.1.size⟩) (fun j v _ _ => (DSm.kept hS.1.deck (gb_of_below bxx _)) j v)
        · clear hold; clear hcl; simp only [inv.dstsL, inv.putT, Nat.reduceAdd, List.set_cons_zero, List.set_cons_succ]
          have h5 : ∃ a' N' c' qs, (vs 5) = .agg #[.slice a' N' c'] ∧ RegIn W a' N' c' qs ∧ Ok qs ∧ qs.length ≤ ps.length + 1 := hD 5 (by kernel_rfl)
          have h7 : ∃ B y0 y1 y2, (vs 7) = .pointer (some ⟨B, 0, none⟩) ∧ W.heap[B]? = some (.cells #[.slice y0 y1 y2] 29 (0, 0)) ∧ B ≠ bd ∧ wr.heap.size ≤ B := hD 7 (by kernel_rfl)
          obtain ⟨a', N', c', qs, h5, r1, r2, r3⟩ := h5
          obtain ⟨B, y0, y1, y2, h7, hb, hne, hwB⟩ := h7
          have HH7 := h7
          have GS : W.grownBy (W.setCell ⟨B, 0, none⟩ (.slice a' N' c')) (some B) := gb_set _ (gb_refl W (some B))
          obtain ⟨c0, f0⟩ := cell_at hb 0
          have hset := set_at (i := 0) (.slice a' N' c') hb
          rw [h5, h7]
          go_simp
          exact hK undef _ _ (by simp only [inv.dstsL, inv.putT, Nat.reduceAdd, List.set_cons_zero, List.set_cons_succ, h5, h7]; (try rfl)) (⟨hS.1.grown GS (fun e => by injection e with e; exact hne e.symm) (fun j hj => by cases hj; have := GX.out.mine; have := GX.out.lt; omega), hS.2.1.andThen GS (fun j hj => by cases hj; exact .inl hwB), fun _ => ⟨B, a', N', c', qs, HH7, hset, hne, hwB, r1.box hb GS, r2, r3⟩⟩) (by first | rfl | trivial) (fun j v _ _ h => DSm.kept3 hb hset GS j v h)
        · clear hold; clear hcl; simp only [inv.dstsL, inv.putT, Nat.reduceAdd, List.set_cons_zero, List.set_cons_succ]
          have h6 : ∃ E : Int, (vs 6) = .int .i64 E := hD 6 (by kernel_rfl)
          obtain ⟨E, h6⟩ := h6
          rw [h6]
          go_simp
          exact hK _ _ _ (by simp only [inv.dstsL, inv.putT, Nat.reduceAdd, List.set_cons_zero, List.set_cons_succ, h6]; (try rfl)) (hS.mark 9 _ (by decide) (by decide)) (⟨_, rfl⟩) (fun _ _ _ _ h => h)
      case rest =>
        intro vs W done hdone hS hD
        obtain ⟨g9, b9, h9⟩ := hS
        obtain ⟨B, a', N', c', qs, hp, hb9, hne9, hB9, r9, o9, l9⟩ := h9 (hdone 8 (by decide))
        obtain ⟨E, hE9⟩ : ∃ E : Int, vs 9 = .int .i64 E := hD 9 (by decide)
        simp only [inv.dstsL, inv.putT, Nat.reduceAdd, List.set_cons_zero, List.set_cons_succ]
        rw [hp, hE9]
        have Y1 := Lib.hid (b9.block_at BX1.out (lt_of_block BX1.out) (by simpa using hxb))
        have Y2 := Lib.hid (b9.block_at BX.out (lt_of_block BX.out) (by simpa using hxb1))
        have GB9 := Lib.hid (gb_tr GB.out b9)
        have GX9 := Lib.hid g9
        have HB9 := Lib.hid hb9
        have R0 := Lib.hid (REG.out.far GX.out.deck b9)
        have R9 := Lib.hid r9
        have O9 := Lib.hid o9
        have L9 := Lib.hid l9
        generalize vs 0 = y0, vs 1 = y1, vs 2 = y2, vs 3 = y3, vs 4 = y4, vs 5 = y5, vs 6 = y6 at *
        clear hD hdone h9 hp hE9 g9 b9 hb9 r9 o9 l9 HS0 BXL BXN GD
        by_cases e0 : E = 0
        · subst e0
          obtain ⟨c0, -⟩ := cell_at HB9.out 0
          obtain ⟨d0, f0⟩ := cell_at Y2.out 0
          have hset := set_at (i := 0) (.slice a' N' c') Y2.out
          have gs : W.grownBy (W.setCell ⟨x + 1, 0, none⟩ (.slice a' N' c')) (some (x + 1)) := gb_set _ (gb_refl W (some (x + 1)))
          have G10 := Lib.hid (GX9.out.grown gs (by simpa using fun e => hxb1 e.symm) (fun j hj => by cases hj; have := GX9.out.mine; omega))
          have B10 : Hid (w.grownBy (W.setCell ⟨x + 1, 0, none⟩ (.slice a' N' c')) (some bd)) := GB9.out.andThen gs (fun j hj => by cases hj; exact .inl (by omega))
          have R10 := Lib.hid (R9.out.box Y2.out gs)
          have Y10 := Lib.hid (gs.block_at Y1.out (lt_of_block Y1.out) (by simp))
          have S10 := Lib.hid hset
          clear hset gs
          go_wp2
          go_roundw
          case rel => exact ⟨k - 1, a', N', c', qs, by go_num, by omega, G10, B10, Y10, S10, R10, O9, by show _ ≤ _; have := LN.out; have := L9.out; omega⟩
          case measure => simp [intOf]; omega
        · have TE : (E == 0) = false := beq_eq_false_iff_ne.2 e0
          clear e0
          go_wp2
          go_roundw
          case rel => exact ⟨k - 1, a, N, c, ps, by go_num, by omega, GX9, GB9, Y1, Y2, R0, OKP, by show _ ≤ _; have := LN.out; omega⟩
          case measure => simp [intOf]; omega
    · obtain rfl : k = 0 := by omega
      have T1 : decide ((0 : Int) < ((0 : Nat) : Int)) = false := rfl
      obtain ⟨c0, -⟩ := cell_at BX.out 0
      obtain ⟨d0, f0⟩ := cell_at BX1.out 0
      have e1 := set_at (i := 0) (.slice a N c) BX1.out
      have p0 := (cell_at e1 0).1
      have gs : wr.grownBy (wr.setCell ⟨x, 0, none⟩ (.slice a N c)) (some x) := gb_set _ (gb_refl wr (some x))
      have G9 := Lib.hid (GX.out.grown gs (by simpa using fun e => hxb e.symm) (fun j hj => by cases hj; have := GX.out.mine; omega))
      have B9 : Hid (w.grownBy (wr.setCell ⟨x, 0, none⟩ (.slice a N c)) (some bd)) := GB.out.andThen gs (fun j hj => by cases hj; exact .inl (by omega))
      have R9 := Lib.hid (REG.out.box BX1.out gs)
      clear e1 gs
      go_wp2
      exact bodyPost_ret (v := .agg #[.slice a N c]) (by simp [results, Tryd.results10, go_sem, p0]) rfl ⟨_, _, _, _, rfl, R9.out, OKP.out, by have := LN.out; omega, G9.out, B9.out⟩
end Go.Proofs.YtceidbjjciejhaaDoor.reg

/- Registers in boxes: what laws hold of memory. No walk in this text. -/
namespace Go.Proofs.YtceidbjjciejhaaDoor.reg
open Go.RowKit lex aggs kit net deck

/-- a new box of a register -/
theorem boxed (w : World) (a : Option Addr) (N c : Nat) (W : World) (h : (w.alloc (.cells #[.slice none 0 0] 29)).setCell ⟨w.heap.size, 0, none⟩ (.slice a N c) = W) : OneAt W w.heap.size (.slice a N c) ∧ Below w.heap.size w W ∧ w.heap.size < W.heap.size ∧ (w.alloc (.cells #[.slice none 0 0] 29)).cell? ⟨w.heap.size, 0, none⟩ = some (.slice none 0 0) ∧ (w.alloc (.cells #[.slice none 0 0] 29)).frozen? ⟨w.heap.size, 0, none⟩ = false := by
  have hz := heap_alloc_new w (.cells #[.slice none 0 0] 29)
  have hset := set_at (i := 0) (.slice a N c) hz
  obtain ⟨c0, z0⟩ := cell_at hz 0
  rw [h] at hset
  have hl := lt_of_block hset
  refine ⟨⟨(cell_at hset 0).1, hl⟩, ?_, hl, c0, z0⟩
  rw [← h]
  exact (below_box w _).setCell (p := ⟨w.heap.size, 0, none⟩) (Nat.le_refl _) _
/-- a register in a box -/
structure Bx (W : World) (g : Nat) (a : Option Addr) (N c : Nat) (qs : List Pn) : Prop where
  one : OneAt W g (.slice a N c)
  reg : RegIn W a N c qs
theorem Bx.below {W W' : World} {g : Nat} {a : Option Addr} {N c : Nat} {qs : List Pn} (h : Bx W g a N c qs) (b : Below W.heap.size W W') : Bx W' g a N c qs := ⟨h.one.below b h.one.2, h.reg.below b⟩
/-- what the law holds: a register, two people -/
structure Bk (W0 W : World) (rb pb qb : Nat) (a : Option Addr) (N c : Nat) (ps : List Pn) (p q : Pn) : Prop where
  below : Below W0.heap.size W0 W
  r : Bx W rb a N c ps
  pp : PnAt W pb p
  qq : PnAt W qb q
  cls : HasClasses W
theorem Bk.step {W0 W W' : World} {rb pb qb : Nat} {a : Option Addr} {N c : Nat} {ps : List Pn} {p q : Pn} (h : Bk W0 W rb pb qb a N c ps p q) (b : Below W.heap.size W W') : Bk W0 W' rb pb qb a N c ps p q :=
  ⟨h.below.trans (b.mono h.below.size), h.r.below b, h.pp.below b h.pp.2.2.2.2.2, h.qq.below b h.qq.2.2.2.2.2, h.cls.below b⟩
end Go.Proofs.YtceidbjjciejhaaDoor.reg

/- The walks of layer 5's program: Print. Condition: the tables hold what their texts lay. -/
namespace Go.Proofs.YtceidbjjciejhaaDoor.reg
open Go.RowKit lex aggs kit net strs cal

theorem printP_snoc (L : List Pn) (p : Pn) : printP (L ++ [p]) = printP L ++ (Lib.join (pnW p) [32] ++ [10]) := by
  unfold printP
  rw [List.map_append, List.map_append, List.map_cons, List.map_nil, List.map_cons, List.map_nil, textOf_snoc]
theorem printP_line {L : List Pn} {p : Pn} {t ln : ByteArray} (h : t = bs (printP L)) (k : bs (Lib.join (pnW p) [32] ++ [10]) = ln) : t ++ ln = bs (printP (L ++ [p])) := by
  rw [h, ← k, printP_snoc, bs_append]
set_option maxRecDepth 100000 in
set_option maxHeartbeats 4000000 in
theorem print_good (a : Option Addr) (N c : Nat) (ps : List Pn) (w : World) (H : RTabs w) (h : RegIn w a N c ps) (hok : Ok ps) :
    Calls Tryd.prog 19 #[.agg #[.slice a N c]] w fun e w' => e = .returned (.tuple #[.string (bs (printP ps)), .int .i64 0]) ∧ Below w.heap.size w w' := by
  have bx := below_box w (.cells #[.slice a N c] 29)
  have NT := Lib.hid (OneAt.new w (.slice a N c) 29)
  have HN := Lib.hid (fun wr (bel : Below w.heap.size w wr) => h.below bel)
  have HH := Lib.hid (fun wr (bel : Below w.heap.size w wr) => H.below bel)
  have CK := Lib.hid (check_is a N c ps 0 _ (h.below bx) (H.below bx).ct.tabs.cls (SkI.of_ok hok) (chkP_zero.2 hok))
  have hN := hok.len
  rw [h.len] at hN
  have LN := Lib.hid h.len
  have AL := Lib.hid hok.all
  have BX := Lib.hid bx
  clear h H hok bx
  go_enter Tryd.func19, Tryd.ntmps19
  go_wp2_with fail
  refine CK.out.mono ?_; rintro e w1 ⟨rfl, b1⟩
  have B1 : Hid (Below (w.heap.size + 1) (w.alloc (.cells #[.slice a N c] 29)) w1) := by show Below _ _ _; simpa using b1
  clear b1
  obtain ⟨q1, q2⟩ := NT.out.below B1.out (Nat.lt_succ_self _)
  go_wp2_with fail
  go_loopw [5, 16] (fun tv iv wr => ∃ (j : Nat) (t : ByteArray), j ≤ N ∧ iv = .int .i64 j ∧ tv = .string t ∧ t.size ≤ 411 * j ∧ Hid (t = bs (printP (ps.take j))) ∧ Hid (Below (w.heap.size + 1) (w.alloc (.cells #[.slice a N c] 29)) wr)) (fun _ i _ => N - (intOf i).toNat)
  case atStart => exact ⟨0, _, Nat.zero_le _, rfl, rfl, by simp [ByteArray.size], rfl, B1⟩
  case round =>
    clear q1 q2 B1
    obtain ⟨j, t, hj, rfl, rfl, htz, ht, bel⟩ := hrel
    obtain ⟨q1, q2⟩ := NT.out.below bel.out (Nat.lt_succ_self _)
    have BL := Lib.hid (BX.out.trans (bel.out.mono (by omega)))
    by_cases hjn : j < N
    · have hjl : j < ps.length := by rw [LN.out]; exact hjn
      obtain ⟨g, o, rfl, hg, hcs⟩ := (HN.out _ BL.out).rin.some (by omega)
      obtain ⟨c0, c1, c2, c3, c4⟩ := cells_pn hcs j hjl
      have he := AL.out _ (List.getElem_mem hjl)
      have hln : (bs (Lib.join (pnW ps[j]) [32] ++ [10])).size ≤ 411 := by
        have := pn_line he
        rw [bs_size, List.length_append]; simp; omega
      have hnx := Lib.hid (fun ln (e : bs (Lib.join (pnW ps[j]) [32] ++ [10]) = ln) => (show t ++ ln = bs (printP (ps.take (j + 1))) from by
        rw [List.take_succ_eq_append_getElem hjl]; exact printP_line ht.out e))
      have KL : ∀ o', Hid (Calls Tryd.prog 30 #[pnV ps[j]] (wr.alloc o') _) := fun o' => lineOf_is ps[j] he (wr.alloc o') ((HH.out _ BL.out).below (below_box _ _))
      have JN : bs (Lib.join (pnW ps[j]) [32]) ++ ⟨#[10]⟩ = bs (Lib.join (pnW ps[j]) [32] ++ [10]) := bs_push _ _
      have hl0 : (bs (Lib.join (pnW ps[j]) [32])).size ≤ 410 := by have := pn_line he; rw [bs_size]; exact this
      obtain ⟨l0, hl0e⟩ : ∃ z, bs (Lib.join (pnW ps[j]) [32]) = z := ⟨_, rfl⟩
      obtain ⟨ln, hle⟩ : ∃ z, bs (Lib.join (pnW ps[j]) [32] ++ [10]) = z := ⟨_, rfl⟩
      rw [hle] at hln JN
      rw [hl0e] at KL JN hl0
      have HX := Lib.hid (hnx.out ln hle)
      generalize ps[j] = x at *
      obtain ⟨nm, co, sk, fr, un⟩ := x
      unfold pnV at KL
      dsimp only at c0 c1 c2 c3 c4 KL
      clear hle hl0e hnx ht he hcs hg hjl
      go_wp2_with fail
      refine (KL _).out.mono ?_; rintro e w2 ⟨rfl, b2⟩
      have B2 : Hid (Below (w.heap.size + 1) _ w2) := (bel.out.alloc (by have := bel.out.size; simpa using this) _).trans (b2.mono (by have := bel.out.size; simp at this ⊢; omega))
      clear b2
      go_wp2
      go_roundw
      case rel => exact ⟨j + 1, _, by omega, by go_num, rfl, by rw [ByteArray.size_append]; omega, HX, B2⟩
      case measure => simp [intOf]; omega
    · obtain rfl : N = j := by omega
      have HT : Hid (t = bs (printP ps)) := by
        show _ = _
        rw [ht.out, ← LN.out, List.take_length]
      clear ht
      go_wp2
      go_ret2
      exact ⟨by rw [← HT.out]; rfl, BL.out⟩
set_option maxRecDepth 100000 in
set_option maxHeartbeats 1000000 in
theorem print_bad (a : Option Addr) (N c : Nat) (ps : List Pn) (r : Int) (w : World) (H : RTabs w) (h : RegIn w a N c ps) (hw : SkI ps) (hc : chkP ps = r) (hr : r ≠ 0) :
    Calls Tryd.prog 19 #[.agg #[.slice a N c]] w fun e w' => e = .returned (.tuple #[.string (bs []), .int .i64 r]) ∧ Below w.heap.size w w' := by
  have bx := below_box w (.cells #[.slice a N c] 29)
  have CK := Lib.hid (check_is a N c ps r _ (h.below bx) (H.below bx).ct.tabs.cls hw hc)
  have T : (r != 0) = true := bne_iff_ne.2 hr
  have BX := Lib.hid bx
  clear h H bx hr hc hw
  go_enter Tryd.func19, Tryd.ntmps19
  go_wp2_with fail
  refine CK.out.mono ?_; rintro e w1 ⟨rfl, b1⟩
  have B1 : Hid (Below w.heap.size w w1) := BX.out.trans (b1.mono BX.out.size)
  clear b1
  go_wp2
  go_ret2
  exact ⟨rfl, B1.out⟩
theorem print_is (a : Option Addr) (N c : Nat) (ps : List Pn) (w : World) (H : RTabs w) (h : RegIn w a N c ps) (hw : SkI ps) :
    Calls Tryd.prog 19 #[.agg #[.slice a N c]] w fun e w' => e = .returned (.tuple #[.string (bs (prP ps)), .int .i64 (chkP ps)]) ∧ Below w.heap.size w w' := by
  unfold prP
  by_cases hc : chkP ps = 0
  · rw [if_pos hc, hc]; exact print_good a N c ps w H h (chkP_zero.1 hc)
  · rw [if_neg hc]; exact print_bad a N c ps _ w H h hw rfl hc
end Go.Proofs.YtceidbjjciejhaaDoor.reg

/- The walks of layer 5's program: the person of a line's words. Condition: the tables hold what their texts lay. -/
namespace Go.Proofs.YtceidbjjciejhaaDoor.reg
open Go.RowKit lex aggs kit net strs cal

/-- words that can be read -/
def WIn (W : World) (g o : Nat) (ws : List (List UInt8)) : Prop := ∀ i (h : i < ws.length), W.cell? ⟨g, o + i, none⟩ = some (.string (bs ws[i]))
theorem WIn.get {W : World} {g o : Nat} {ws : List (List UInt8)} (h : WIn W g o ws) (i : Nat) (x : List UInt8) (hx : ws[i]? = some x) : W.cell? ⟨g, o + i, none⟩ = some (.string (bs x)) := by
  obtain ⟨hi, rfl⟩ := List.getElem?_eq_some_iff.1 hx
  exact h i hi
theorem WIn.below {W W' : World} {g o B : Nat} {ws : List (List UInt8)} (h : WIn W g o ws) (hb : Below B W W') (hg : g < B) : WIn W' g o ws := fun i hi => by
  rw [hb.cell (p := ⟨g, o + i, none⟩) hg]; exact h i hi
def zP : Pn := ⟨⟨#[]⟩, 0, 0, 0, 0⟩
/-- what the words of a line say -/
def perR (ws : List (List UInt8)) : Pn := if perB ws = true then perV ws else zP
def pcells (p : Pn) : Array Value := #[.string p.nm, .int .i64 p.co, .int .i64 p.sk, .int .i64 p.fr, .int .i64 p.un]
theorem arr5 {W : World} {b T : Nat} {u0 u1 u2 u3 u4 : Value} (h : W.heap[b]? = some (.cells #[u0, u1, u2, u3, u4] T (0, 0))) :
    (W.cell? ⟨b, 0, none⟩ = some u0 ∧ W.cell? ⟨b, 1, none⟩ = some u1 ∧ W.cell? ⟨b, 2, none⟩ = some u2 ∧ W.cell? ⟨b, 3, none⟩ = some u3 ∧ W.cell? ⟨b, 4, none⟩ = some u4) ∧
    W.frozen? ⟨b, 0, none⟩ = false ∧ W.frozen? ⟨b, 1, none⟩ = false ∧ W.frozen? ⟨b, 2, none⟩ = false ∧ W.frozen? ⟨b, 3, none⟩ = false ∧ W.frozen? ⟨b, 4, none⟩ = false :=
  ⟨⟨(cell_atR h 0).1, (cell_atR h 1).1, (cell_atR h 2).1, (cell_atR h 3).1, (cell_atR h 4).1⟩, (cell_atR h 0).2, (cell_atR h 1).2, (cell_atR h 2).2, (cell_atR h 3).2, (cell_atR h 4).2⟩
theorem blk {B : Nat} {w w' : World} (hb : Below B w w') {b : Nat} (hB : b < B) {o : Obj} (h : w.heap[b]? = some o) : w'.heap[b]? = some o := by
  rw [hb.block b hB]; exact h
theorem perB_len {ws : List (List UInt8)} (h : ws.length ≠ 10) : perB ws = false := by
  unfold perB; rw [decide_eq_false h]; rfl
theorem perB_kw {ws : List (List UInt8)} (i : Nat) (hi : i < 5) (h : at_ ws (2 * i) ≠ kwd i) : perB ws = false := by
  unfold perB
  rcases (show i = 0 ∨ i = 1 ∨ i = 2 ∨ i = 3 ∨ i = 4 by omega) with rfl | rfl | rfl | rfl | rfl
  · rw [show decide (at_ ws 0 = wPerson) = false from decide_eq_false h]; simp
  · rw [show decide (at_ ws 2 = wCom) = false from decide_eq_false h]; simp
  · rw [show decide (at_ ws 4 = wSk) = false from decide_eq_false h]; simp
  · rw [show decide (at_ ws 6 = wFrom) = false from decide_eq_false h]; simp
  · rw [show decide (at_ ws 8 = wUntil) = false from decide_eq_false h]; simp
theorem perB_rest {s0 s1 s2 s3 s4 s5 s6 s7 s8 s9 : List UInt8} (h : ∀ k, k < 5 → at_ [s0, s1, s2, s3, s4, s5, s6, s7, s8, s9] (2 * k) = kwd k) :
    perB [s0, s1, s2, s3, s4, s5, s6, s7, s8, s9] = (numB s3 lim && decide (skN s5 < 32) && progB s7 && progB s9) := by
  have h0 : at_ [s0, s1, s2, s3, s4, s5, s6, s7, s8, s9] 0 = wPerson := h 0 (by decide)
  have h1 : at_ [s0, s1, s2, s3, s4, s5, s6, s7, s8, s9] 2 = wCom := h 1 (by decide)
  have h2 : at_ [s0, s1, s2, s3, s4, s5, s6, s7, s8, s9] 4 = wSk := h 2 (by decide)
  have h3 : at_ [s0, s1, s2, s3, s4, s5, s6, s7, s8, s9] 6 = wFrom := h 3 (by decide)
  have h4 : at_ [s0, s1, s2, s3, s4, s5, s6, s7, s8, s9] 8 = wUntil := h 4 (by decide)
  unfold perB
  rw [h0, h1, h2, h3, h4]
  simp [at_]
theorem set5 {W : World} {b T : Nat} {u0 u1 u2 u3 u4 v0 v1 v2 v3 v4 : Value} (h : W.heap[b]? = some (.cells #[u0, u1, u2, u3, u4] T (0, 0))) :
    ((World.setCell (World.setCell (World.setCell (World.setCell (World.setCell W ⟨b, 0, none⟩ v0) ⟨b, 1, none⟩ v1) ⟨b, 2, none⟩ v2) ⟨b, 3, none⟩ v3) ⟨b, 4, none⟩ v4)).heap[b]? = some (.cells #[v0, v1, v2, v3, v4] T (0, 0)) := by
  have h1 := set_at (i := 4) v4 (set_at (i := 3) v3 (set_at (i := 2) v2 (set_at (i := 1) v1 (set_at (i := 0) v0 h))))
  exact h1
theorem set5_below {W w : World} {b B : Nat} {v0 v1 v2 v3 v4 : Value} (h : Below B w W) (hb : B ≤ b) : Below B w ((World.setCell (World.setCell (World.setCell (World.setCell (World.setCell W ⟨b, 0, none⟩ v0) ⟨b, 1, none⟩ v1) ⟨b, 2, none⟩ v2) ⟨b, 3, none⟩ v3) ⟨b, 4, none⟩ v4)) :=
  ((((h.setCell (p := ⟨b, 0, none⟩) hb v0).setCell (p := ⟨b, 1, none⟩) hb v1).setCell (p := ⟨b, 2, none⟩) hb v2).setCell (p := ⟨b, 3, none⟩) hb v3).setCell (p := ⟨b, 4, none⟩) hb v4
set_option maxRecDepth 100000 in
set_option maxHeartbeats 4000000 in
theorem personOf_is (ws : List (List UInt8)) (g c : Nat) (w : World) (H : RTabs w) (hw : WIn w g 0 ws) (hg : g < w.heap.size) (hc : ws.length ≤ c) (hl : ∀ x ∈ ws, x.length < 4294967281) :
    Calls Tryd.prog 48 #[.slice (some ⟨g, 0, none⟩) ws.length c] w fun e w' => e = .returned (.tuple #[pnV (perR ws), .bool (perB ws)]) ∧ Below w.heap.size w w' := by
  obtain ⟨n, hn⟩ : ∃ n, ws.length = n := ⟨_, rfl⟩
  have bx := below_box w (.cells (pcells zP) 32)
  have hx := heap_alloc_new w (.cells (pcells zP) 32)
  obtain ⟨W0, hW0⟩ : ∃ W, w.alloc (.cells (pcells zP) 32) = W := ⟨_, rfl⟩
  obtain ⟨x, hxw⟩ : ∃ x, w.heap.size = x := ⟨_, rfl⟩
  have hs0 : W0.heap.size = x + 1 := by rw [← hW0, ← hxw]; simp
  rw [hxw] at hx hg
  rw [hW0] at hx bx
  have BX := Lib.hid bx
  have HX := Lib.hid hx
  have HS0 := Lib.hid hs0
  have HH : Hid (∀ W, Below (x + 1) W0 W → RTabs W) := fun W b => H.below (by have := BX.out.trans (b.mono (by rw [hxw]; omega)); exact this)
  have HW : Hid (∀ W, Below (x + 1) W0 W → WIn W g 0 ws) := fun W b => (hw.below BX.out (by rw [hxw]; exact hg)).below b (by omega)
  unfold pcells zP at hW0 hx
  dsimp only at hW0 hx
  by_cases h10 : n = 10
  · subst h10
    obtain ⟨s0, s1, s2, s3, s4, s5, s6, s7, s8, s9, rfl⟩ : ∃ s0 s1 s2 s3 s4 s5 s6 s7 s8 s9, ws = [s0, s1, s2, s3, s4, s5, s6, s7, s8, s9] := by
      match ws, hn with
      | [s0, s1, s2, s3, s4, s5, s6, s7, s8, s9], _ => exact ⟨_, _, _, _, _, _, _, _, _, _, rfl⟩
    have z3 : s3.length < 4294967281 := hl s3 (by simp)
    have z7 : s7.length < 4294967281 := hl s7 (by simp)
    have z9 : s9.length < 4294967281 := hl s9 (by simp)
    obtain ⟨b3, hb3⟩ : ∃ b, numB s3 lim = b := ⟨_, rfl⟩
    obtain ⟨n3, hn3⟩ : ∃ b, numV s3 lim = b := ⟨_, rfl⟩
    obtain ⟨b5, hb5⟩ : ∃ b, decide (skN s5 < 32) = b := ⟨_, rfl⟩
    obtain ⟨n5, hn5⟩ : ∃ b, (if skN s5 < 32 then (skN s5 : Int) else 0) = b := ⟨_, rfl⟩
    obtain ⟨b7, hb7⟩ : ∃ b, progB s7 = b := ⟨_, rfl⟩
    obtain ⟨b9, hb9⟩ : ∃ b, progB s9 = b := ⟨_, rfl⟩
    obtain ⟨n7, hn7⟩ : ∃ b, paV s7 = b := ⟨_, rfl⟩
    obtain ⟨n9, hn9⟩ : ∃ b, paV s9 = b := ⟨_, rfl⟩
    have N3 := Lib.hid (fun W (b : Below (x + 1) W0 W) => number_at (bs s3) lim n3 b3 W (HH.out W b).ct.tabs.cls (by rw [bs_size]; unfold maxLen; omega) (by decide) (by decide) (by rw [bs_data]; exact hn3) (by rw [bs_data]; exact hb3))
    unfold lim at N3
    have N5 := Lib.hid (fun W => skillsOf_is s5 n5 b5 hb5 hn5 W)
    obtain ⟨x7, hx7⟩ : ∃ b, (if b7 = true then (0 : Int) else 2) = b := ⟨_, rfl⟩
    have HE7 : Hid ((b7 = true → x7 = 0) ∧ (b7 = false → x7 = 2)) := ⟨fun e => by rw [← hx7, if_pos e], fun e => by rw [← hx7, if_neg (by rw [e]; decide)]⟩
    have N7 := Lib.hid (fun W (b : Below (x + 1) W0 W) => parse_at (bs s7) s7 rfl n7 x7 hn7 (by unfold paE; rw [hb7]; exact hx7) z7 W (HH.out W b).ct)
    obtain ⟨x9, hx9⟩ : ∃ b, (if b9 = true then (0 : Int) else 2) = b := ⟨_, rfl⟩
    have HE9 : Hid ((b9 = true → x9 = 0) ∧ (b9 = false → x9 = 2)) := ⟨fun e => by rw [← hx9, if_pos e], fun e => by rw [← hx9, if_neg (by rw [e]; decide)]⟩
    have N9 := Lib.hid (fun W (b : Below (x + 1) W0 W) => parse_at (bs s9) s9 rfl n9 x9 hn9 (by unfold paE; rw [hb9]; exact hx9) z9 W (HH.out W b).ct)
    have HN5 : Hid (b5 = true → n5 = (skN s5 : Int)) := fun e => by rw [← hn5, if_pos (of_decide_eq_true (by rw [hb5]; exact e))]
    have HRS : Hid ((∀ k, k < 5 → at_ [s0, s1, s2, s3, s4, s5, s6, s7, s8, s9] (2 * k) = kwd k) → perB [s0, s1, s2, s3, s4, s5, s6, s7, s8, s9] = (b3 && b5 && b7 && b9)) := fun h => by rw [perB_rest h, hb3, hb5, hb7, hb9]
    have HV : Hid (perV [s0, s1, s2, s3, s4, s5, s6, s7, s8, s9] = ⟨bs s1, n3, (skN s5 : Int), n7, n9⟩) := by rw [← hn3, ← hn7, ← hn9]; rfl
    have HNO : Hid (∀ i, i < 5 → at_ [s0, s1, s2, s3, s4, s5, s6, s7, s8, s9] (2 * i) ≠ kwd i → perB [s0, s1, s2, s3, s4, s5, s6, s7, s8, s9] = false ∧ perR [s0, s1, s2, s3, s4, s5, s6, s7, s8, s9] = zP) := fun i hi e => ⟨perB_kw i hi e, by unfold perR; rw [if_neg (by rw [perB_kw i hi e]; decide)]⟩
    obtain ⟨ANS, hans⟩ : ∃ A, pnV (perR [s0, s1, s2, s3, s4, s5, s6, s7, s8, s9]) = A := ⟨_, rfl⟩
    obtain ⟨ANB, hanb⟩ : ∃ A, perB [s0, s1, s2, s3, s4, s5, s6, s7, s8, s9] = A := ⟨_, rfl⟩
    have HAN := Lib.hid hans
    have HAB := Lib.hid hanb
    rw [hans, hanb, hn]
    clear hx7 hx9 hans hanb hb3 hn3 hb5 hn5 hb7 hn7 hb9 hn9 hx bx H hw hs0 hn hl hc z3 z7 z9
    obtain ⟨k0, k1, k2, k3, k4⟩ : W0.cell? ⟨0, 0, none⟩ = some (.string (bs (kwd 0))) ∧ W0.cell? ⟨0, 1, none⟩ = some (.string (bs (kwd 1))) ∧ W0.cell? ⟨0, 2, none⟩ = some (.string (bs (kwd 2))) ∧ W0.cell? ⟨0, 3, none⟩ = some (.string (bs (kwd 3))) ∧ W0.cell? ⟨0, 4, none⟩ = some (.string (bs (kwd 4))) := by
      have K := (HH.out W0 (Below.refl _ _)).kws
      exact ⟨K 0 (by decide), K 1 (by decide), K 2 (by decide), K 3 (by decide), K 4 (by decide)⟩
    go_enter Tryd.func48, Tryd.ntmps48
    go_wp2_with fail
    (try rw [hW0])
    (try rw [hxw])
    clear hW0 k0 k1 k2 k3 k4
    go_loopw [19] (fun iv wr => ∃ i : Nat, i ≤ 5 ∧ iv = .int .i64 i ∧ Hid (Below (x + 1) W0 wr) ∧ Hid (∀ k, k < i → at_ [s0, s1, s2, s3, s4, s5, s6, s7, s8, s9] (2 * k) = kwd k)) (fun iv _ => 5 - (intOf iv).toNat)
    case atStart => exact ⟨0, by decide, rfl, Below.refl _ _, fun k hk => by cases hk⟩
    case round =>
      obtain ⟨i, hi5, rfl, BL, KW⟩ := hrel
      by_cases hlt : i < 5
      · have hii : (i : Int) < 5 := by omega
        obtain ⟨A, hA⟩ : ∃ A : Array Value, A = #[.string (bs (kwd 0)), .string (bs (kwd 1)), .string (bs (kwd 2)), .string (bs (kwd 3)), .string (bs (kwd 4))] := ⟨_, rfl⟩
        have hIx : ∀ w, (Instr.index 76 (.agg A) (.int .i64 i)).run Tryd.prog w = .ok (.string (bs (kwd i))) w := by
          rw [hA]
          rcases (show i = 0 ∨ i = 1 ∨ i = 2 ∨ i = 3 ∨ i = 4 by omega) with rfl | rfl | rfl | rfl | rfl <;> exact fun w => rfl
        have cw : wr.cell? ⟨g, 2 * i, none⟩ = some (.string (bs (at_ [s0, s1, s2, s3, s4, s5, s6, s7, s8, s9] (2 * i)))) := by
          have := (HW.out wr BL.out).get (2 * i) (at_ [s0, s1, s2, s3, s4, s5, s6, s7, s8, s9] (2 * i)) (by rcases (show i = 0 ∨ i = 1 ∨ i = 2 ∨ i = 3 ∨ i = 4 by omega) with rfl | rfl | rfl | rfl | rfl <;> rfl)
          rw [Nat.zero_add] at this; exact this
        obtain ⟨y, hy⟩ : ∃ y, bs (at_ [s0, s1, s2, s3, s4, s5, s6, s7, s8, s9] (2 * i)) = y := ⟨_, rfl⟩
        obtain ⟨z, hz⟩ : ∃ y, bs (kwd i) = y := ⟨_, rfl⟩
        rw [hy] at cw
        rw [← hA]
        clear hA
        rw [hz] at hIx
        by_cases e : at_ [s0, s1, s2, s3, s4, s5, s6, s7, s8, s9] (2 * i) = kwd i
        · have TE : (y.toList == z.toList) = true := by rw [str_eq, ← hy, ← hz, e]; exact decide_eq_true rfl
          have hnext : Hid (∀ k, k < i + 1 → at_ [s0, s1, s2, s3, s4, s5, s6, s7, s8, s9] (2 * k) = kwd k) := fun k hk => by
            by_cases e1 : k = i
            · subst e1; exact e
            · exact KW.out k (by omega)
          clear e hy hz KW
          go_wp2
          go_roundw
          case rel => exact ⟨i + 1, by omega, by go_num, BL, hnext⟩
          case measure => simp [intOf]; omega
        · have TE : (y.toList == z.toList) = false := by rw [str_eq, ← hy, ← hz]; exact decide_eq_false (fun q => e (bs_inj q))
          obtain ⟨r1, r2⟩ := HNO.out i hlt e
          have r3 := HAB.out
          have r4 := HAN.out
          rw [r1] at r3
          rw [r2] at r4
          subst r3 r4
          obtain ⟨⟨q0, q1, q2, q3, q4⟩, f0, f1, f2, f3, f4⟩ := arr5 (T := 32) (blk BL.out (Nat.lt_succ_self x) HX.out)
          clear e hy hz r1 r2
          go_wp2
          generalize h9 : (World.setCell (World.setCell (World.setCell (World.setCell (World.setCell wr ⟨x, 0, none⟩ (.string ⟨#[]⟩)) ⟨x, 1, none⟩ (.int .i64 0)) ⟨x, 2, none⟩ (.int .i64 0)) ⟨x, 3, none⟩ (.int .i64 0)) ⟨x, 4, none⟩ (.int .i64 0)) = W9
          have X9 := set5 (v0 := (.string ⟨#[]⟩)) (v1 := (.int .i64 0)) (v2 := (.int .i64 0)) (v3 := (.int .i64 0)) (v4 := (.int .i64 0)) (blk BL.out (Nat.lt_succ_self x) HX.out)
          have bz := set5_below (b := x) (B := x) (v0 := (.string ⟨#[]⟩)) (v1 := (.int .i64 0)) (v2 := (.int .i64 0)) (v3 := (.int .i64 0)) (v4 := (.int .i64 0)) (BX.out.trans (BL.out.mono (by rw [hxw]; omega)) |> fun h => (by rw [hxw] at h; exact h)) (Nat.le_refl _)
          rw [h9] at X9 bz
          clear h9
          have BZ := Lib.hid bz
          obtain ⟨⟨q0, q1, q2, q3, q4⟩, -⟩ := arr5 X9
          clear X9 bz
          exact bodyPost_ret (v := .tuple #[pnV (zP), .bool false]) (by simp [results, Tryd.results48, go_sem, q0, q1, q2, q3, q4, pnV, zP]) rfl ⟨rfl, by first | exact BZ.out | (rw [hxw]; exact BZ.out)⟩
      · obtain rfl : i = 5 := by omega
        have RS := HRS.out KW.out
        clear HNO KW HRS
        have WR := HW.out wr BL.out
        have c3 := WR.get 3 s3 rfl
        have c5 := WR.get 5 s5 rfl
        have c7 := WR.get 7 s7 rfl
        have c9 := WR.get 9 s9 rfl
        clear WR c5 c7 c9
        have hs1 := HS0.out
        go_wp2_with fail
        refine (N3.out wr BL.out).mono ?_; rintro e w3 ⟨rfl, rfl⟩
        have c5 := (HW.out _ BL.out).get 5 s5 rfl
        clear c3
        go_wp2_with fail
        refine (N5.out _).mono ?_; rintro e w5 ⟨rfl, t5⟩
        have B5 := Lib.hid (BL.out.trans (t5.mono (by have := BL.out.size; omega)))
        have c7 := (HW.out _ B5.out).get 7 s7 rfl
        clear t5 c5
        go_wp2_with fail
        refine (N7.out _ B5.out).mono ?_; rintro e w7 ⟨rfl, t7⟩
        have B7 := Lib.hid (B5.out.trans (t7.mono (by have := B5.out.size; omega)))
        have c9 := (HW.out _ B7.out).get 9 s9 rfl
        clear t7 c7
        go_wp2_with fail
        refine (N9.out _ B7.out).mono ?_; rintro e w9 ⟨rfl, t9⟩
        have B9 := Lib.hid (B7.out.trans (t9.mono (by have := B7.out.size; omega)))
        have c1 := (HW.out _ B9.out).get 1 s1 rfl
        clear t9 c9 hs1
        obtain ⟨⟨q0, q1, q2, q3, q4⟩, f0, f1, f2, f3, f4⟩ := arr5 (T := 32) (blk B9.out (Nat.lt_succ_self x) HX.out)
        have r3 := HAB.out
        have r4 := HAN.out
        unfold perR at r4
        rw [r3] at r4
        rw [RS] at r3
        cases b3 <;> cases b5 <;> cases b7 <;> cases b9
        case true.true.true.true =>
          have h5 := HN5.out rfl
          subst r3
          rw [if_pos (show (true && true && true && true) = true from rfl), HV.out, ← h5] at r4
          subst r4
          clear RS h5
          have e7 := HE7.out
          have e9 := HE9.out
          first | (obtain rfl : x7 = 0 := e7.1 rfl) | (obtain rfl : x7 = 2 := e7.2 rfl)
          first | (obtain rfl : x9 = 0 := e9.1 rfl) | (obtain rfl : x9 = 2 := e9.2 rfl)
          clear e7 e9 HE7 HE9
          go_wp2
          generalize h9 : (World.setCell (World.setCell (World.setCell (World.setCell (World.setCell w9 ⟨x, 0, none⟩ (.string (bs s1))) ⟨x, 1, none⟩ (.int .i64 n3)) ⟨x, 2, none⟩ (.int .i64 n5)) ⟨x, 3, none⟩ (.int .i64 n7)) ⟨x, 4, none⟩ (.int .i64 n9)) = W9
          have X9 := set5 (v0 := (.string (bs s1))) (v1 := (.int .i64 n3)) (v2 := (.int .i64 n5)) (v3 := (.int .i64 n7)) (v4 := (.int .i64 n9)) (blk B9.out (Nat.lt_succ_self x) HX.out)
          have bz := set5_below (b := x) (B := x) (v0 := (.string (bs s1))) (v1 := (.int .i64 n3)) (v2 := (.int .i64 n5)) (v3 := (.int .i64 n7)) (v4 := (.int .i64 n9)) (BX.out.trans (B9.out.mono (by rw [hxw]; omega)) |> fun h => (by rw [hxw] at h; exact h)) (Nat.le_refl _)
          rw [h9] at X9 bz
          clear h9
          have BZ := Lib.hid bz
          obtain ⟨⟨q0, q1, q2, q3, q4⟩, -⟩ := arr5 X9
          clear X9 bz
          exact bodyPost_ret (v := .tuple #[pnV (⟨bs s1, n3, n5, n7, n9⟩), .bool true]) (by simp [results, Tryd.results48, go_sem, q0, q1, q2, q3, q4, pnV]) rfl ⟨rfl, by first | exact BZ.out | (rw [hxw]; exact BZ.out)⟩
        all_goals
          subst r3
          rw [if_neg (by decide)] at r4
          subst r4
          clear RS
          have e7 := HE7.out
          have e9 := HE9.out
          first | (obtain rfl : x7 = 0 := e7.1 rfl) | (obtain rfl : x7 = 2 := e7.2 rfl)
          first | (obtain rfl : x9 = 0 := e9.1 rfl) | (obtain rfl : x9 = 2 := e9.2 rfl)
          clear e7 e9 HE7 HE9
          go_wp2
          generalize h9 : (World.setCell (World.setCell (World.setCell (World.setCell (World.setCell w9 ⟨x, 0, none⟩ (.string ⟨#[]⟩)) ⟨x, 1, none⟩ (.int .i64 0)) ⟨x, 2, none⟩ (.int .i64 0)) ⟨x, 3, none⟩ (.int .i64 0)) ⟨x, 4, none⟩ (.int .i64 0)) = W9
          have X9 := set5 (v0 := (.string ⟨#[]⟩)) (v1 := (.int .i64 0)) (v2 := (.int .i64 0)) (v3 := (.int .i64 0)) (v4 := (.int .i64 0)) (blk B9.out (Nat.lt_succ_self x) HX.out)
          have bz := set5_below (b := x) (B := x) (v0 := (.string ⟨#[]⟩)) (v1 := (.int .i64 0)) (v2 := (.int .i64 0)) (v3 := (.int .i64 0)) (v4 := (.int .i64 0)) (BX.out.trans (B9.out.mono (by rw [hxw]; omega)) |> fun h => (by rw [hxw] at h; exact h)) (Nat.le_refl _)
          rw [h9] at X9 bz
          clear h9
          have BZ := Lib.hid bz
          obtain ⟨⟨q0, q1, q2, q3, q4⟩, -⟩ := arr5 X9
          clear X9 bz
          exact bodyPost_ret (v := .tuple #[pnV (zP), .bool false]) (by simp [results, Tryd.results48, go_sem, q0, q1, q2, q3, q4, pnV, zP]) rfl ⟨rfl, by first | exact BZ.out | (rw [hxw]; exact BZ.out)⟩
  · have hB := perB_len (by rw [hn]; exact h10)
    have hR : perR ws = zP := by unfold perR; rw [if_neg (by rw [hB]; decide)]
    rw [hn, hB, hR]
    have T : ((n : Int) != 10) = true := by rw [bne_iff_ne]; omega
    obtain ⟨⟨q0, q1, q2, q3, q4⟩, f0, f1, f2, f3, f4⟩ := arr5 hx
    clear hB hR hx bx H hw hs0 hn hl hc hg
    go_enter Tryd.func48, Tryd.ntmps48
    go_wp2_with fail
    (try rw [hW0])
    (try rw [hxw])
    clear hW0
    go_wp2
    generalize h9 : (World.setCell (World.setCell (World.setCell (World.setCell (World.setCell W0 ⟨x, 0, none⟩ (.string ⟨#[]⟩)) ⟨x, 1, none⟩ (.int .i64 0)) ⟨x, 2, none⟩ (.int .i64 0)) ⟨x, 3, none⟩ (.int .i64 0)) ⟨x, 4, none⟩ (.int .i64 0)) = W9
    have X9 := set5 (v0 := (.string ⟨#[]⟩)) (v1 := (.int .i64 0)) (v2 := (.int .i64 0)) (v3 := (.int .i64 0)) (v4 := (.int .i64 0)) (HX.out)
    have bz := set5_below (b := x) (B := x) (v0 := (.string ⟨#[]⟩)) (v1 := (.int .i64 0)) (v2 := (.int .i64 0)) (v3 := (.int .i64 0)) (v4 := (.int .i64 0)) (BX.out.trans ((Below.refl (x + 1) W0).mono (by rw [hxw]; omega)) |> fun h => (by rw [hxw] at h; exact h)) (Nat.le_refl _)
    rw [h9] at X9 bz
    clear h9
    have BZ := Lib.hid bz
    obtain ⟨⟨q0, q1, q2, q3, q4⟩, -⟩ := arr5 X9
    clear X9 bz
    exact bodyPost_ret (v := .tuple #[pnV (zP), .bool false]) (by simp [results, Tryd.results48, go_sem, q0, q1, q2, q3, q4, pnV, zP]) rfl ⟨rfl, by first | exact BZ.out | (rw [hxw]; exact BZ.out)⟩
end Go.Proofs.YtceidbjjciejhaaDoor.reg

/- The walks of layer 5's program: a line more. Condition: the tables hold what their texts lay. -/
namespace Go.Proofs.YtceidbjjciejhaaDoor.reg
open Go.RowKit lex aggs kit net strs cal deck

/-- what a line makes of a register -/
def lineP (ps : List Pn) (ws : List (List UInt8)) : List Pn × Int := if skipB ws = true then (ps, 0) else if perB ws = true then addP ps (perV ws) else ([], 2)
theorem skN_I64 (l : List UInt8) : I64 (skN l : Int) := by have := skN_le l; exact ⟨by omega, by omega⟩
theorem RegIn.set {W : World} {a y : Option Addr} {N c b T m k : Nat} {ps : List Pn} {v : Value} (h : RegIn W a N c ps) (hb : W.heap[b]? = some (.cells #[.slice y m k] T (0, 0))) : RegIn (W.setCell ⟨b, 0, none⟩ v) a N c ps :=
  h.box hb (gb_set v (gb_refl W (some b)))
set_option maxRecDepth 100000 in
set_option maxHeartbeats 4000000 in
theorem addLine_is (a : Option Addr) (N c : Nat) (ps : List Pn) (ws : List (List UInt8)) (v : Value) (base : Nat) (w : World) (H : RTabs w) (h : RegIn w a N c ps) (hw : SkI ps) (hv : StrsAt w base v ws) (hg : ∀ s ∈ ws, lex.Good s) (hl : ∀ s ∈ ws, s.length < 4294967281) :
    Calls Tryd.prog 32 #[.agg #[.slice a N c], v] w (RegPost (lineP ps ws).1 (lineP ps ws).2 w) := by
  obtain ⟨x, hxw⟩ : ∃ x, w.heap.size = x := ⟨_, rfl⟩
  have bx := below_box w (.cells #[.slice a N c] 29)
  have by_ := below_box (w.alloc (.cells #[.slice a N c] 29)) (.cells #[.slice none 0 0] 29)
  have BX := bx.trans (by_.mono bx.size)
  have hx0 := by_.cell (p := ⟨w.heap.size, 0, none⟩) (by simp)
  rw [show (w.alloc (.cells #[.slice a N c] 29)).cell? ⟨w.heap.size, 0, none⟩ = some (.slice a N c) from (cell_atR (heap_alloc_new w _) 0).1] at hx0
  have hx1 := heap_alloc_new (w.alloc (.cells #[.slice a N c] 29)) (.cells #[.slice none 0 0] 29)
  have hs1 : ((w.alloc (.cells #[.slice a N c] 29)).alloc (.cells #[.slice none 0 0] 29)).heap.size = x + 2 := by rw [← hxw]; simp
  have hsz : (w.alloc (.cells #[.slice a N c] 29)).heap.size = x + 1 := by rw [← hxw]; simp
  obtain ⟨W1, hW1⟩ : ∃ W, (w.alloc (.cells #[.slice a N c] 29)).alloc (.cells #[.slice none 0 0] 29) = W := ⟨_, rfl⟩
  rw [hW1] at hx0 hx1 hs1 BX
  rw [hsz] at hx1
  rw [hxw] at hx0 BX
  replace BX := Lib.hid BX
  have X0 : Hid (∀ W, Below (x + 2) W1 W → W.cell? ⟨x, 0, none⟩ = some (.slice a N c)) := fun W b => by rw [b.cell (p := ⟨x, 0, none⟩) (by show x < x + 2; omega)]; exact hx0
  have X1 : Hid (∀ W, Below (x + 2) W1 W → W.heap[x + 1]? = some (.cells #[.slice none 0 0] 29 (0, 0))) := fun W b => blk b (by omega) hx1
  have RI : Hid (∀ W, Below (x + 2) W1 W → RegIn W a N c ps) := fun W b => h.below (by have := BX.out.trans (b.mono (by omega)); rw [hxw]; exact this)
  have HT : Hid (∀ W, Below (x + 2) W1 W → RTabs W) := fun W b => H.below (by have := BX.out.trans (b.mono (by omega)); rw [hxw]; exact this)
  have HS1 := Lib.hid hs1
  have HWD := Lib.hid hw
  have c0 := X0.out W1 (Below.refl _ _)
  have z0 := (cell_atR hx1 0).2
  have d0 := (cell_atR hx1 0).1
  clear bx by_ hx0 hs1
  cases ws with
  | nil =>
    have hE : lineP ps [] = (ps, 0) := rfl
    rw [hE]
    dsimp only
    obtain ⟨a0, c', rfl, -⟩ := hv.length
    clear h H hv hg hl hw hE
    go_enter Tryd.func32, Tryd.ntmps32
    go_wp2_with fail
    (try rw [hsz])
    (try rw [hW1])
    (try rw [hxw])
    clear hsz hW1
    have e1 := set_at (i := 0) (.slice a N c) (hx1)
    have p0 := (cell_atR e1 0).1
    have bz := (BX.out.trans ((Below.refl (x + 2) W1).mono (by omega))).setCell (p := ⟨x + 1, 0, none⟩) (by show x ≤ x + 1; omega) (.slice a N c)
    have BZ := Lib.hid bz
    clear bz e1
    go_wp2
    exact bodyPost_ret (v := .tuple #[.agg #[.slice a N c], .int .i64 0]) (by simp [results, Tryd.results32, go_sem, p0]) rfl ⟨_, _, _, rfl, (RI.out W1 (Below.refl _ _)).set (X1.out W1 (Below.refl _ _)), by first | exact BZ.out | (rw [hxw]; exact BZ.out)⟩
  | cons s0 t =>
    rcases hv.shape with ⟨_, e⟩ | ⟨g, cc, e, hbg, hgl, hlen, hcap, hcell⟩
    · cases e
    · subst e
      have w0 := hcell 0 (by simp)
      rw [List.getElem_cons_zero] at w0
      have HW : WIn w g 0 (s0 :: t) := fun i hi => by rw [Nat.zero_add]; exact hcell i hi
      obtain ⟨hs0, -⟩ := hg s0 List.mem_cons_self
      obtain ⟨z, hzz⟩ : ∃ z, bs s0 = z := ⟨_, rfl⟩
      rw [hzz] at w0
      have hzd : z.data.toList = s0 := by rw [← hzz, bs_data]
      have Z0 : 0 < z.size := by rw [← hzz, bs_size]; exact List.length_pos_iff.2 hs0
      have hz0 : s0.head? = some z[0] := by
        have e1 : s0[0]? = some z[0] := by subst hzd; rw [List.getElem?_eq_getElem (by simpa using Z0)]; congr 1
        rw [← e1]; cases s0 <;> rfl
      have hsk : skipB (s0 :: t) = (z[0] == 35) := by
        show (false || (s0.head? == some 35)) = _
        rw [hz0]; rfl
      rw [hxw] at hgl
      have bw1 : Below x w W1 := BX.out
      have w1 : W1.cell? ⟨g, 0, none⟩ = some (.string z) := by rw [bw1.cell (p := ⟨g, 0, none⟩) hgl]; exact w0
      have hn : 0 < (s0 :: t).length := by simp
      by_cases q : z[0] = 35
      · have e1 : skipB (s0 :: t) = true := by rw [hsk, q]; rfl
        have hE : lineP ps (s0 :: t) = (ps, 0) := by unfold lineP; rw [if_pos e1]
        rw [hE]
        dsimp only
        have T1 : ((z[0].toNat : Int) == 35) = true := by rw [q]; rfl
        obtain ⟨n, hnn⟩ : ∃ n, (s0 :: t).length = n := ⟨_, rfl⟩
        rw [hnn] at hn ⊢
        have T0 : ((n : Int) == 0) = false := by rw [beq_eq_false_iff_ne]; omega
        clear h H hv hg hl hw hE hcell hzz hzd hz0 hsk e1 q HW w0 bw1
        go_enter Tryd.func32, Tryd.ntmps32
        go_wp2_with fail
        (try rw [hsz])
        (try rw [hW1])
        (try rw [hxw])
        clear hsz hW1
        have e1 := set_at (i := 0) (.slice a N c) (hx1)
        have p0 := (cell_atR e1 0).1
        have bz := (BX.out.trans ((Below.refl (x + 2) W1).mono (by omega))).setCell (p := ⟨x + 1, 0, none⟩) (by show x ≤ x + 1; omega) (.slice a N c)
        have BZ := Lib.hid bz
        clear bz e1
        go_wp2
        exact bodyPost_ret (v := .tuple #[.agg #[.slice a N c], .int .i64 0]) (by simp [results, Tryd.results32, go_sem, p0]) rfl ⟨_, _, _, rfl, (RI.out W1 (Below.refl _ _)).set (X1.out W1 (Below.refl _ _)), by first | exact BZ.out | (rw [hxw]; exact BZ.out)⟩
      · have e1 : skipB (s0 :: t) = false := by rw [hsk]; exact beq_eq_false_iff_ne.2 q
        have hE : lineP ps (s0 :: t) = if perB (s0 :: t) = true then addP ps (perV (s0 :: t)) else ([], 2) := by unfold lineP; rw [if_neg (by rw [e1]; decide)]
        rw [hE]
        have T1 : ((z[0].toNat : Int) == 35) = false := by
          rw [beq_eq_false_iff_ne]; intro k
          exact q (UInt8.toNat_inj.1 (by have : z[0].toNat = 35 := by omega
                                         rw [this]; rfl))
        have PO := Lib.hid (personOf_is (s0 :: t) g cc W1 (HT.out W1 (Below.refl _ _)) (HW.below bw1 hgl) (by rw [HS1.out]; omega) hlen hl)
        have hl1 : (at_ (s0 :: t) 1).length < 4294967281 := by
          unfold at_
          rw [List.getD_eq_getElem?_getD]
          cases e : (s0 :: t)[1]? with
          | none => decide
          | some y => exact hl y (List.mem_of_getElem? e)
        unfold perR at PO
        generalize s0 :: t = ws at *
        obtain ⟨n, hnn⟩ : ∃ n, ws.length = n := ⟨_, rfl⟩
        rw [hnn] at hn PO ⊢
        have T0 : ((n : Int) == 0) = false := by rw [beq_eq_false_iff_ne]; omega
        clear h H hv hg hl hw hE hcell hzz hzd hz0 hsk e1 q HW w0 bw1
        by_cases hB : perB ws = true
        · rw [hB] at PO
          rw [if_pos hB]
          rw [if_pos rfl] at PO
          obtain ⟨p, hp⟩ : ∃ p, perV ws = p := ⟨_, rfl⟩
          have hpn : p.nm.size ≤ maxLen := by rw [← hp]; show (bs (at_ ws 1)).size ≤ _; rw [bs_size]; unfold maxLen; omega
          have hpk : I64 p.sk := by rw [← hp]; exact skN_I64 _
          rw [hp] at PO ⊢
          obtain ⟨nm, co, sk, fr, un⟩ := p
          unfold pnV at PO
          dsimp only at PO
          have AD := Lib.hid (fun W b => add_is a N c ps ⟨nm, co, sk, fr, un⟩ W (RI.out W b) (HT.out W b).ct.tabs.cls HWD.out hpn hpk)
          unfold pnV at AD
          dsimp only at AD
          obtain ⟨⟨R1, R2⟩, hR⟩ : ∃ R, addP ps ⟨nm, co, sk, fr, un⟩ = R := ⟨_, rfl⟩
          rw [hR] at AD ⊢
          dsimp only at AD ⊢
          clear hp hB hR hl1 hpn hpk
          go_enter Tryd.func32, Tryd.ntmps32
          go_wp2_with fail
          (try rw [hsz])
          (try rw [hW1])
          (try rw [hxw])
          clear hsz hW1 w1
          refine PO.out.mono ?_; rintro e w2 ⟨rfl, b2⟩
          have B2 : Hid (Below (x + 2) W1 w2) := b2.mono (by rw [HS1.out]; omega)
          have PT := Lib.hid (PnAt.new w2 ⟨nm, co, sk, fr, un⟩ 32)
          have B3 : Hid (Below (x + 2) W1 (w2.alloc (.cells #[.string nm, .int .i64 co, .int .i64 sk, .int .i64 fr, .int .i64 un] 32))) := B2.out.alloc (by have := B2.out.size; have := HS1.out; omega) _
          have c3 := X0.out _ B3.out
          obtain ⟨q0, q1, q2, q3, q4, -⟩ := PT.out
          dsimp only at q0 q1 q2 q3 q4
          clear b2 c0 d0 z0
          go_wp2_with fail
          refine (AD.out _ B3.out).mono ?_; rintro e w4 ⟨a', N', c', rfl, R4, b4⟩
          have B4 : Hid (Below (x + 2) W1 w4) := B3.out.trans (b4.mono (by have := B3.out.size; have := HS1.out; omega))
          have hx4 := X1.out _ B4.out
          have z4 := (cell_atR hx4 0).2
          have d4 := (cell_atR hx4 0).1
          have RR := Lib.hid R4
          clear b4 R4 c3 q0 q1 q2 q3 q4
          have e1 := set_at (i := 0) (.slice a' N' c') (hx4)
          have p0 := (cell_atR e1 0).1
          have bz := (BX.out.trans (B4.out.mono (by omega))).setCell (p := ⟨x + 1, 0, none⟩) (by show x ≤ x + 1; omega) (.slice a' N' c')
          have BZ := Lib.hid bz
          clear bz e1
          go_wp2
          exact bodyPost_ret (v := .tuple #[.agg #[.slice a' N' c'], .int .i64 R2]) (by simp [results, Tryd.results32, go_sem, p0]) rfl ⟨_, _, _, rfl, RR.out.set (X1.out w4 B4.out), by first | exact BZ.out | (rw [hxw]; exact BZ.out)⟩
        · have hB' : perB ws = false := by cases e : perB ws with
            | true => exact absurd e hB
            | false => rfl
          rw [hB'] at PO
          rw [if_neg hB]
          rw [if_neg (by decide)] at PO
          unfold pnV zP at PO
          dsimp only at PO ⊢
          clear hB hB' hl1
          go_enter Tryd.func32, Tryd.ntmps32
          go_wp2_with fail
          (try rw [hsz])
          (try rw [hW1])
          (try rw [hxw])
          clear hsz hW1 w1
          refine PO.out.mono ?_; rintro e w2 ⟨rfl, b2⟩
          have B2 : Hid (Below (x + 2) W1 w2) := b2.mono (by rw [HS1.out]; omega)
          have B3 : Hid (Below (x + 2) W1 (w2.alloc (.cells #[.string ⟨#[]⟩, .int .i64 0, .int .i64 0, .int .i64 0, .int .i64 0] 32))) := B2.out.alloc (by have := B2.out.size; have := HS1.out; omega) _
          have hx3 := X1.out _ B3.out
          have z3 := (cell_atR hx3 0).2
          have d3 := (cell_atR hx3 0).1
          clear b2 c0 d0 z0
          go_wp2_with fail
          have e1 := set_at (i := 0) (.slice none 0 0) (hx3)
          have p0 := (cell_atR e1 0).1
          have bz := (BX.out.trans (B3.out.mono (by omega))).setCell (p := ⟨x + 1, 0, none⟩) (by show x ≤ x + 1; omega) (.slice none 0 0)
          have BZ := Lib.hid bz
          clear bz e1
          go_wp2
          exact bodyPost_ret (v := .tuple #[.agg #[.slice none 0 0], .int .i64 2]) (by simp [results, Tryd.results32, go_sem, p0]) rfl ⟨_, _, _, rfl, reg_nil _, by first | exact BZ.out | (rw [hxw]; exact BZ.out)⟩
end Go.Proofs.YtceidbjjciejhaaDoor.reg

/- The walks of layer 5's program: Parse. Condition: the tables hold what their texts lay. -/
namespace Go.Proofs.YtceidbjjciejhaaDoor.reg
open Go.RowKit lex aggs kit net strs cal deck

theorem linesF_wsumR (r : List UInt8) : ∀ cur L, linesF cur r = some L → wsum L = cur.length + r.length := by
  induction r with
  | nil =>
    intro cur L h
    unfold linesF at h
    split at h
    · rename_i e
      injection h with h
      subst h e; rfl
    · cases h
  | cons c r ih =>
    intro cur L h
    unfold linesF at h
    split at h
    · obtain ⟨L', h1, h2⟩ := Option.map_eq_some_iff.1 h
      subst h2
      have := ih [] L' h1
      rw [wsum_cons, this]; simp; omega
    · split at h
      · have := ih _ L h
        rw [this]; simp; omega
      · cases h
theorem lines_wsumR {s : List UInt8} {L : List (List UInt8)} (h : lines s = some L) : wsum L = s.length ∧ s.length ≤ 65536 := by
  unfold lines at h
  split at h
  · cases h
  · have := linesF_wsumR s [] L h
    simp at this
    exact ⟨this, by omega⟩
theorem mem_wsumR {x : List UInt8} {L : List (List UInt8)} (h : x ∈ L) : x.length + 1 ≤ wsum L := by
  induction L with
  | nil => cases h
  | cons y r ih =>
    rw [wsum_cons]
    rcases List.mem_cons.1 h with rfl | h
    · omega
    · have := ih h; omega
theorem lineP_ok {st : List Pn} {ws : List (List UInt8)} (h : Ok st) (e : (lineP st ws).2 = 0) : Ok (lineP st ws).1 := by
  unfold lineP at e ⊢
  by_cases h1 : skipB ws = true
  · rw [if_pos h1]; exact h
  · rw [if_neg h1] at e ⊢
    by_cases h2 : perB ws = true
    · rw [if_pos h2] at e ⊢
      obtain ⟨-, -, -, -, h5, h6⟩ := addP_ok e
      rw [h5]; exact h6
    · rw [if_neg h2] at e; cases e
theorem runP_line (i : Nat) (st : List Pn) (ws : List (List UInt8)) (r : List (List (List UInt8))) : runP i st (ws :: r) = if (lineP st ws).2 = 0 then runP (i + 1) (lineP st ws).1 r else ([], i + 1, (lineP st ws).2) := by
  unfold lineP
  rw [runP]
  by_cases h1 : skipB ws = true
  · rw [if_pos h1, if_pos h1, if_pos rfl]
  · rw [if_neg h1, if_neg h1]
    by_cases h2 : perB ws = true
    · rw [if_pos h2, if_pos h2]
    · rw [if_neg h2, if_neg h2, if_neg (by decide)]
/-- where the reading stands -/
def AtR (L : List (List UInt8)) (j : Nat) (st : List Pn) : Prop := runP 0 [] (L.map words) = runP j st ((L.drop j).map words)
theorem AtR.step {L : List (List UInt8)} {j : Nat} {st : List Pn} (h : AtR L j st) (hj : j < L.length) : runP 0 [] (L.map words) = if (lineP st (words L[j])).2 = 0 then runP (j + 1) (lineP st (words L[j])).1 ((L.drop (j + 1)).map words) else ([], j + 1, (lineP st (words L[j])).2) := by
  unfold AtR at h
  rw [h, List.drop_eq_getElem_cons hj, List.map_cons, runP_line]
theorem StrsAt.box {W W' : World} {base B y2 y3 : Nat} {y1 : Option Addr} {v : Value} {xs : List (List UInt8)} (h : StrsAt W base v xs) (hb : W.heap[B]? = some (.cells #[.slice y1 y2 y3] 29 (0, 0))) (hg : W.grownBy W' (some B)) : StrsAt W' base v xs := by
  obtain ⟨h1, h2⟩ := h
  refine ⟨h1, ?_⟩
  rcases h2 with h2 | ⟨g, cap, cur, rfl, hb2, hh, hr⟩
  · exact .inl h2
  · refine .inr ⟨g, cap, cur, rfl, hb2, ?_, hr⟩
    rw [hg.block g (lt_of_block hh) (fun e => by
      injection e with e
      subst e
      rw [hh] at hb
      injection hb with hb
      injection hb with _ hb _
      exact absurd hb (by decide))]
    exact hh
/-- a text's register -/
def ParseP (s : List UInt8) (w : World) (e : Ending) (w' : World) : Prop :=
  ∃ a N c, e = .returned (.tuple #[.agg #[.slice a N c], .int .i64 ((parseP s).2.1 : Int), .int .i64 (parseP s).2.2]) ∧ RegIn w' a N c (parseP s).1 ∧ Below w.heap.size w w'
/-- while a line is read -/
def SLn (w : World) (qs : List Pn) (done : Nat → Bool) (vs : Nat → Value) (W : World) : Prop :=
  Below w.heap.size w W ∧ (done 8 = true → ∃ B a N c, vs 7 = .pointer (some ⟨B, 0, none⟩) ∧ W.heap[B]? = some (.cells #[.slice a N c] 29 (0, 0)) ∧ w.heap.size ≤ B ∧ RegIn W a N c qs)
theorem SLn.step {w W W' : World} {qs : List Pn} {done done' : Nat → Bool} {vs vs' : Nat → Value} (h : SLn w qs done vs W) (hb : Below W.heap.size W W') (hd : done' 8 = true → done 8 = true) (hv : done 8 = true → vs' 7 = vs 7) : SLn w qs done' vs' W' := by
  obtain ⟨h1, h2⟩ := h
  refine ⟨h1.trans (hb.mono h1.size), fun h8 => ?_⟩
  obtain ⟨B, a, N, c, q1, q2, q3, q4⟩ := h2 (hd h8)
  exact ⟨B, a, N, c, by rw [hv (hd h8)]; exact q1, blk hb (lt_of_block q2) q2, q3, q4.below hb⟩
theorem SLn.mark {w W : World} {qs : List Pn} {done : Nat → Bool} {vs : Nat → Value} (h : SLn w qs done vs W) (i : Nat) (v : Value) (h8 : i ≠ 8) (h7 : i ≠ 7) : SLn w qs (fun j => if j = i then true else done j) (inv.upd vs i v) W :=
  h.step (Below.refl _ _) (fun q => by simpa [h8.symm] using q) (fun _ => if_neg (fun e => h7 e.symm))
def DPa (l : List UInt8) (ws : List (List UInt8)) (qs : List Pn) (a : Option Addr) (N c z : Nat) (E : Int) : Nat → Value → World → Prop
  | 0, v, _ => v = .agg #[.slice a N c]
  | 1, v, _ => v = .string (bs l)
  | 2, v, W => StrsAt W z v ws
  | 3, v, W => ∃ a' N' c', v = .tuple #[.agg #[.slice a' N' c'], .int .i64 E] ∧ RegIn W a' N' c' qs
  | 4, v, W => ∃ a' N' c', v = .tuple #[.agg #[.slice a' N' c'], .int .i64 E] ∧ RegIn W a' N' c' qs
  | 5, v, W => ∃ a' N' c', v = .agg #[.slice a' N' c'] ∧ RegIn W a' N' c' qs
  | 6, v, _ => v = .int .i64 E
  | 7, v, W => ∃ B y0 y1 y2, v = .pointer (some ⟨B, 0, none⟩) ∧ W.heap[B]? = some (.cells #[.slice y0 y1 y2] 29 (0, 0)) ∧ z ≤ B
  | 9, v, _ => v = .int .i64 E
  | _, _, _ => True
theorem DPa.kept {l : List UInt8} {ws : List (List UInt8)} {qs : List Pn} {a : Option Addr} {N c z : Nat} {E : Int} {W W' : World} (hb : Below W.heap.size W W') : ∀ j v, DPa l ws qs a N c z E j v W → DPa l ws qs a N c z E j v W'
  | 0, _, h | 1, _, h | 6, _, h | 8, _, h | 9, _, h | _ + 10, _, h => h
  | 2, _, h => StrsAt.below h hb
  | 3, _, ⟨a', N', c', h1, h2⟩ => ⟨a', N', c', h1, h2.below hb⟩
  | 4, _, ⟨a', N', c', h1, h2⟩ => ⟨a', N', c', h1, h2.below hb⟩
  | 5, _, ⟨a', N', c', h1, h2⟩ => ⟨a', N', c', h1, h2.below hb⟩
  | 7, _, ⟨B, y0, y1, y2, h1, h2, h3⟩ => ⟨B, y0, y1, y2, h1, blk hb (lt_of_block h2) h2, h3⟩
theorem DPa.kept3 {l : List UInt8} {ws : List (List UInt8)} {qs : List Pn} {a : Option Addr} {N c z : Nat} {E : Int} {b m k m' k' : Nat} {y y' : Option Addr} {W W' : World} (hb : W.heap[b]? = some (.cells #[.slice y m k] 29 (0, 0))) (hb' : W'.heap[b]? = some (.cells #[.slice y' m' k'] 29 (0, 0))) (hg : W.grownBy W' (some b)) : ∀ j v, DPa l ws qs a N c z E j v W → DPa l ws qs a N c z E j v W'
  | 0, _, h | 1, _, h | 6, _, h | 8, _, h | 9, _, h | _ + 10, _, h => h
  | 2, _, h => StrsAt.box h hb hg
  | 3, _, ⟨a', N', c', h1, h2⟩ => ⟨a', N', c', h1, h2.box hb hg⟩
  | 4, _, ⟨a', N', c', h1, h2⟩ => ⟨a', N', c', h1, h2.box hb hg⟩
  | 5, _, ⟨a', N', c', h1, h2⟩ => ⟨a', N', c', h1, h2.box hb hg⟩
  | 7, _, ⟨B, y0, y1, y2, h1, h2, h3⟩ => by
    by_cases e : B = b
    · subst e; exact ⟨B, _, _, _, h1, hb', h3⟩
    · exact ⟨B, y0, y1, y2, h1, by rw [hg.block B (lt_of_block h2) (by simpa using e)]; exact h2, h3⟩
set_option maxRecDepth 100000 in
set_option maxHeartbeats 8000000 in
theorem parse_is (s : List UInt8) (w : World) (H : RTabs w) (hs : s.length ≤ 1099511627776) :
    Calls Tryd.prog 20 #[.string (bs s)] w (ParseP s w) := by
  obtain ⟨r, hr⟩ : ∃ r, lines s = r := ⟨_, rfl⟩
  have BX0 := Lib.hid (below_box w (.cells #[.slice none 0 0] 29))
  have HB : Hid ((w.alloc (.cells #[.slice none 0 0] 29)).heap[w.heap.size]? = some (.cells #[.slice none 0 0] 29 (0, 0))) := heap_alloc_new _ _
  have HH := Lib.hid (fun W (b : Below w.heap.size w W) => H.below b)
  have LN := Lib.hid (lines_bs s r hr _ (HH.out _ BX0.out).ct.tabs.cls hs)
  have HR := Lib.hid hr
  clear hr H hs
  obtain ⟨x, hx⟩ : ∃ x, w.heap.size = x := ⟨_, rfl⟩
  have HXE := Lib.hid hx
  rw [hx] at HB
  clear hx
  go_enter Tryd.func20, Tryd.ntmps20
  go_wp2_with fail
  (try rw [HXE.out])
  refine LN.out.mono ?_; rintro e w1 ⟨v, rfl, hv, b1⟩
  have B1 : Hid (Below (x + 1) (w.alloc (.cells #[.slice none 0 0] 29)) w1) := by show Below _ _ _; rw [← HXE.out]; simpa using b1
  have BW := Lib.hid (BX0.out.trans (B1.out.mono (by rw [HXE.out]; omega)))
  have hb1 : w1.heap[x]? = some (.cells #[.slice none 0 0] 29 (0, 0)) := blk B1.out (Nat.lt_succ_self _) HB.out
  have hv' : StrsAt w1 (x + 1) v (r.getD []) := by rw [← HXE.out]; simpa using hv
  have HV := Lib.hid hv'
  clear b1 hv hv' HB
  cases r with
  | none =>
    have PN : Hid (parseP s = ([], 0, 2)) := by show _ = _; unfold parseP; rw [HR.out]
    obtain ⟨d0, f0⟩ := cell_atR hb1 0
    have e1 := set_at (i := 0) (.slice none 0 0) hb1
    have p0 := (cell_atR e1 0).1
    have BE := Lib.hid (BW.out.setCell (p := ⟨x, 0, none⟩) (by rw [HXE.out]; exact Nat.le_refl _) (.slice none 0 0))
    clear hb1 e1
    go_wp2
    refine bodyPost_ret (v := .tuple #[.agg #[.slice none 0 0], .int .i64 0, .int .i64 2]) (by simp [results, Tryd.results20, go_sem, p0]) rfl ?_
    unfold ParseP
    rw [PN.out]
    exact ⟨none, 0, 0, rfl, reg_nil _, by first | exact BE.out | (rw [← HXE.out] at BE; exact BE.out)⟩
  | some L =>
    obtain ⟨la, cl, rfl, hLm⟩ := HV.out.length
    rw [Option.getD_some] at hLm
    have HV2 : Hid (StrsAt w1 (x + 1) (.slice la L.length cl) L) := HV.out
    obtain ⟨hws, hsz⟩ := lines_wsumR HR.out
    have hL := length_le_wsum L
    have HZ : Hid (∀ l ∈ L, l.length ≤ 65536) := fun l hl => by have := mem_wsumR hl; omega
    have hL2 : L.length ≤ 65536 := by omega
    clear hws hsz hL hLm HV
    obtain ⟨n, hn⟩ : ∃ n, L.length = n := ⟨_, rfl⟩
    have HN := Lib.hid hn
    have ROW : Hid (∀ (j : Nat) (hj : j < L.length), ∃ g, la = some ⟨g, 0, none⟩ ∧ g < w1.heap.size ∧ w1.cell? ⟨g, j, none⟩ = some (.string (bs L[j]))) := fun j hj => by
      rcases HV2.out.shape with ⟨_, e⟩ | ⟨g, c, e, _, hg, _, _, hc⟩
      · rw [e] at hj; cases hj
      · injection e with e1 e2 e3
        exact ⟨g, e1, hg, hc j hj⟩
    have HXB : Hid (Below w1.heap.size w1 (w1.alloc (.cells #[.slice none 0 0] 29))) := below_box _ _
    have HX0 : Hid ((w1.alloc (.cells #[.slice none 0 0] 29)).heap[w1.heap.size]? = some (.cells #[.slice none 0 0] 29 (0, 0))) := heap_alloc_new _ _
    have hwx : x < w1.heap.size := lt_of_block hb1
    obtain ⟨y, hy⟩ : ∃ y, w1.heap.size = y := ⟨_, rfl⟩
    have HYE := Lib.hid hy
    rw [hy] at HX0 HXB hwx
    have HB1 := Lib.hid hb1
    have PS : Hid (parseP s = runP 0 [] (L.map words)) := by show _ = _; unfold parseP; rw [HR.out]
    rw [hn] at hL2
    simp only [Option.isSome, Option.getD, hn]
    clear hy hn hb1 HV2
    go_wp2_with fail
    rw [HYE.out]
    go_loopw [22] (fun iv wr => ∃ (j : Nat) (a : Option Addr) (N c : Nat) (st : List Pn), iv = .int .i64 j ∧ j ≤ n ∧ Hid (wr.heap[y]? = some (.cells #[.slice a N c] 29 (0, 0))) ∧ Hid (Below y w1 wr) ∧ Hid (RegIn wr a N c st) ∧ Hid (Ok st) ∧ Hid (AtR L j st)) (fun iv _ => n - (intOf iv).toNat)
    case atStart => exact ⟨0, none, 0, 0, [], rfl, Nat.zero_le _, HX0, HXB, reg_nil _, ok_nil, rfl⟩
    case round =>
      clear HX0 HXB
      obtain ⟨j, a, N, c, st, rfl, hj, BX, bel, REG, OKS, hat⟩ := hrel
      have BL : Hid (Below w.heap.size w wr) := BW.out.trans (bel.out.mono (by rw [HXE.out]; omega))
      have hyl := lt_of_block BX.out
      by_cases hjn : j < n
      · have hjl : j < L.length := by rw [HN.out]; exact hjn
        obtain ⟨g, rfl, hg, hc⟩ := ROW.out j hjl
        have k0 : wr.cell? ⟨g, j, none⟩ = some (.string (bs L[j])) := (bel.out.cell (p := ⟨g, j, none⟩) (by rw [← HYE.out]; exact hg)).trans hc
        have hlz := HZ.out _ (List.getElem_mem hjl)
        have WC := Lib.hid (fun W (b : Below wr.heap.size wr W) => words_bs L[j] W (HH.out _ (BL.out.trans (b.mono BL.out.size))).ct.tabs.cls (by omega))
        unfold WordsPost at WC
        have hwg : ∀ q ∈ words L[j], lex.Good q := words_good L[j]
        have hww := words_wsum L[j]
        have hwz : ∀ q ∈ words L[j], q.length < 4294967281 := fun q hq => by have := mem_wsumR hq; omega
        have AL := Lib.hid (fun W v2 (b : Below wr.heap.size wr W) (hv2 : StrsAt W wr.heap.size v2 (words L[j])) =>
          addLine_is a N c st (words L[j]) v2 wr.heap.size W (HH.out _ (BL.out.trans (b.mono BL.out.size))) (REG.out.below b) (SkI.of_ok OKS.out) hv2 hwg hwz)
        have NX := Lib.hid (AtR.step hat.out hjl)
        have NO : Hid ((lineP st (words L[j])).2 = 0 → Ok (lineP st (words L[j])).1) := lineP_ok OKS.out
        have HDR : Hid (∀ st', runP 0 [] (L.map words) = runP (j + 1) st' ((L.drop (j + 1)).map words) → AtR L (j + 1) st') := fun _ h => h
        generalize words L[j] = ws at *
        generalize L[j] = lj at *
        obtain ⟨⟨R1, R2⟩, hR⟩ : ∃ R, lineP st ws = R := ⟨_, rfl⟩
        rw [hR] at AL NX NO
        dsimp only at AL NX NO
        clear hc hlz hwg hww hwz hR hjl hg
        have HS0 : Hid (∀ yh, SLn wr R1 (fun _ => false) yh wr.drew) := fun yh => ⟨(Below.refl _ _).drew, fun h => by cases h⟩
        go_wp2_with fail
        clear k0
        (try go_wp2)
        refine inv.wp_region_inv3 (SLn wr R1) (DPa lj ws R1 a N c wr.heap.size R2) (by kernel_rfl) (by kernel_rfl) (HS0.out _) ?steps ?rest
        case steps =>
          refine ⟨fun vs W done hS hD hno hold hcl hme K hK => ?_, fun vs W done hS hD hno hold hcl hme K hK => ?_, fun vs W done hS hD hno hold hcl hme K hK => ?_, fun vs W done hS hD hno hold hcl hme K hK => ?_, fun vs W done hS hD hno hold hcl hme K hK => ?_, fun vs W done hS hD hno hold hcl hme K hK => ?_, fun vs W done hS hD hno hold hcl hme K hK => ?_, fun vs W done hS hD hno hold hcl hme K hK => ?_, fun vs W done hS hD hno hold hcl hme K hK => ?_, fun vs W done hS hD hno hold hcl hme K hK => ?_, trivial⟩
          · clear hold; clear hcl; simp only [inv.dstsL, inv.putT, Nat.reduceAdd, List.set_cons_zero, List.set_cons_succ]
            have c0 := (cell_atR (blk hS.1 (lt_of_block BX.out) BX.out) 0).1
            go_simp
            exact hK _ _ _ (by simp only [inv.dstsL, inv.putT, Nat.reduceAdd, List.set_cons_zero, List.set_cons_succ]; (try rfl)) (hS.mark 0 _ (by decide) (by decide)) (rfl) (fun _ _ _ _ h => h)
          · clear hold; clear hcl; simp only [inv.dstsL, inv.putT, Nat.reduceAdd, List.set_cons_zero, List.set_cons_succ]
            go_simp
            exact hK _ _ _ (by simp only [inv.dstsL, inv.putT, Nat.reduceAdd, List.set_cons_zero, List.set_cons_succ]; (try rfl)) (hS.mark 1 _ (by decide) (by decide)) (rfl) (fun _ _ _ _ h => h)
          · clear hold; clear hcl; simp only [inv.dstsL, inv.putT, Nat.reduceAdd, List.set_cons_zero, List.set_cons_succ]
            have h1 : (vs 1) = .string (bs lj) := hD 1 (by kernel_rfl)
            rw [h1]
            go_simp
            refine (WC.out W hS.1).mono ?_; rintro e W2 ⟨v2, rfl, hv2, b2⟩
            exact hK _ _ _ (by simp only [inv.dstsL, inv.putT, Nat.reduceAdd, List.set_cons_zero, List.set_cons_succ, h1]; (try rfl)) (hS.step b2 (fun q => by simpa using q) (fun _ => rfl)) (hv2.mono hS.1.size) (fun j v _ _ => (DPa.kept b2) j v)
          · clear hold; clear hcl; simp only [inv.dstsL, inv.putT, Nat.reduceAdd, List.set_cons_zero, List.set_cons_succ]
            have h0 : (vs 0) = .agg #[.slice a N c] := hD 0 (by kernel_rfl)
            have h2 : StrsAt W wr.heap.size (vs 2) ws := hD 2 (by kernel_rfl)
            rw [h0]
            go_simp
            refine (AL.out W (vs 2) hS.1 h2).mono ?_; rintro e W2 ⟨a', N', c', rfl, g2, b2⟩
            exact hK _ _ _ (by simp only [inv.dstsL, inv.putT, Nat.reduceAdd, List.set_cons_zero, List.set_cons_succ, h0]; (try rfl)) (hS.step b2 (fun q => by simpa using q) (fun _ => rfl)) (⟨_, _, _, rfl, g2⟩) (fun j v _ _ => (DPa.kept b2) j v)
          · clear hold; clear hcl; simp only [inv.dstsL, inv.putT, Nat.reduceAdd, List.set_cons_zero, List.set_cons_succ]
            have h3 : ∃ a' N' c', (vs 3) = .tuple #[.agg #[.slice a' N' c'], .int .i64 R2] ∧ RegIn W a' N' c' R1 := hD 3 (by kernel_rfl)
            obtain ⟨a', N', c', h3, r1⟩ := h3
            rw [h3]
            go_simp
            exact hK _ _ _ (by simp only [inv.dstsL, inv.putT, Nat.reduceAdd, List.set_cons_zero, List.set_cons_succ, h3]; (try rfl)) (hS.mark 4 _ (by decide) (by decide)) (⟨_, _, _, rfl, r1⟩) (fun _ _ _ _ h => h)
          · clear hold; clear hcl; simp only [inv.dstsL, inv.putT, Nat.reduceAdd, List.set_cons_zero, List.set_cons_succ]
            have h4 : ∃ a' N' c', (vs 4) = .tuple #[.agg #[.slice a' N' c'], .int .i64 R2] ∧ RegIn W a' N' c' R1 := hD 4 (by kernel_rfl)
            obtain ⟨a', N', c', h4, r1⟩ := h4
            rw [h4]
            go_simp
            exact hK _ _ _ (by simp only [inv.dstsL, inv.putT, Nat.reduceAdd, List.set_cons_zero, List.set_cons_succ, h4]; (try rfl)) (hS.mark 5 _ (by decide) (by decide)) (⟨_, _, _, rfl, r1⟩) (fun _ _ _ _ h => h)
          · clear hold; clear hcl; simp only [inv.dstsL, inv.putT, Nat.reduceAdd, List.set_cons_zero, List.set_cons_succ]
            have h4 : ∃ a' N' c', (vs 4) = .tuple #[.agg #[.slice a' N' c'], .int .i64 R2] ∧ RegIn W a' N' c' R1 := hD 4 (by kernel_rfl)
            obtain ⟨a', N', c', h4, r1⟩ := h4
            rw [h4]
            go_simp
            exact hK _ _ _ (by simp only [inv.dstsL, inv.putT, Nat.reduceAdd, List.set_cons_zero, List.set_cons_succ, h4]; (try rfl)) (hS.mark 6 _ (by decide) (by decide)) (rfl) (fun _ _ _ _ h => h)
          · clear hold; clear hcl; simp only [inv.dstsL, inv.putT, Nat.reduceAdd, List.set_cons_zero, List.set_cons_succ]
            have d8 := hno 8 (by kernel_rfl)
            have bxx := below_box W (.cells #[.slice none 0 0] 29)
            have hnew := heap_alloc_new W (.cells #[.slice none 0 0] 29)
            have hzz := hS.1.size
            go_simp
            exact hK _ _ _ (by simp only [inv.dstsL, inv.putT, Nat.reduceAdd, List.set_cons_zero, List.set_cons_succ]; (try rfl)) (hS.step bxx (fun q => by simpa using q) (fun q => by rw [d8] at q; cases q)) (⟨_, _, _, _, rfl, hnew, hzz⟩) (fun j v _ _ => (DPa.kept bxx) j v)
          · clear hold; clear hcl; simp only [inv.dstsL, inv.putT, Nat.reduceAdd, List.set_cons_zero, List.set_cons_succ]
            have h5 : ∃ a' N' c', (vs 5) = .agg #[.slice a' N' c'] ∧ RegIn W a' N' c' R1 := hD 5 (by kernel_rfl)
            have h7 : ∃ B y0 y1 y2, (vs 7) = .pointer (some ⟨B, 0, none⟩) ∧ W.heap[B]? = some (.cells #[.slice y0 y1 y2] 29 (0, 0)) ∧ wr.heap.size ≤ B := hD 7 (by kernel_rfl)
            obtain ⟨a', N', c', h5, r1⟩ := h5
            obtain ⟨B, y0, y1, y2, h7, hb, hwB⟩ := h7
            have HH7 := h7
            have GS : W.grownBy (W.setCell ⟨B, 0, none⟩ (.slice a' N' c')) (some B) := gb_set _ (gb_refl W (some B))
            have SB := hS.1.setCell (p := ⟨B, 0, none⟩) hwB (.slice a' N' c')
            obtain ⟨c0, f0⟩ := cell_atR hb 0
            have hset := set_at (i := 0) (.slice a' N' c') hb
            rw [h5, h7]
            go_simp
            exact hK undef _ _ (by simp only [inv.dstsL, inv.putT, Nat.reduceAdd, List.set_cons_zero, List.set_cons_succ, h5, h7]; (try rfl)) (⟨SB, fun _ => ⟨B, a', N', c', HH7, hset, hwB, r1.box hb GS⟩⟩) (by first | rfl | trivial) (fun j v _ _ h => DPa.kept3 hb hset GS j v h)
          · clear hold; clear hcl; simp only [inv.dstsL, inv.putT, Nat.reduceAdd, List.set_cons_zero, List.set_cons_succ]
            have h6 : (vs 6) = .int .i64 R2 := hD 6 (by kernel_rfl)
            rw [h6]
            go_simp
            exact hK _ _ _ (by simp only [inv.dstsL, inv.putT, Nat.reduceAdd, List.set_cons_zero, List.set_cons_succ, h6]; (try rfl)) (hS.mark 9 _ (by decide) (by decide)) (rfl) (fun _ _ _ _ h => h)
        case rest =>
          intro vs W done hdone hS hD
          obtain ⟨b9, h9⟩ := hS
          obtain ⟨B, a', N', c', hp, hb9, hB9, r9⟩ := h9 (hdone 8 (by decide))
          have hE9 : vs 9 = .int .i64 R2 := hD 9 (by decide)
          simp only [inv.dstsL, inv.putT, Nat.reduceAdd, List.set_cons_zero, List.set_cons_succ]
          rw [hp, hE9]
          have Y2 := Lib.hid (blk b9 hyl BX.out)
          have BEL9 := Lib.hid (bel.out.trans (b9.mono (Nat.le_of_lt hyl)))
          have BW9 := Lib.hid (BW.out.trans (BEL9.out.mono (by rw [HXE.out]; omega)))
          have HB9 := Lib.hid hb9
          have R9 := Lib.hid r9
          generalize vs 0 = y0, vs 1 = y1, vs 2 = y2, vs 3 = y3, vs 4 = y4, vs 5 = y5, vs 6 = y6 at *
          clear hD hdone h9 hp hE9 b9 hb9 r9 HS0
          by_cases e0 : R2 = 0
          · subst e0
            have NX2 := NX.out
            rw [if_pos rfl] at NX2
            have NA := Lib.hid (HDR.out _ NX2)
            have O9 := Lib.hid (NO.out rfl)
            obtain ⟨c0, -⟩ := cell_atR HB9.out 0
            obtain ⟨d0, f0⟩ := cell_atR Y2.out 0
            have hset := set_at (i := 0) (.slice a' N' c') Y2.out
            have B10 := Lib.hid (BEL9.out.setCell (p := ⟨y, 0, none⟩) (Nat.le_refl _) (.slice a' N' c'))
            have R10 := Lib.hid (R9.out.set (v := .slice a' N' c') Y2.out)
            have S10 := Lib.hid hset
            clear hset NX2
            go_wp2
            go_roundw
            case rel => exact ⟨j + 1, a', N', c', R1, by go_num, by omega, S10, B10, R10, O9, NA⟩
            case measure => simp [intOf]; omega
          · have TE : (R2 != 0) = true := bne_iff_ne.2 e0
            have NX2 := NX.out
            rw [if_neg e0, ← PS.out] at NX2
            have HF := Lib.hid NX2
            have hbx := blk BEL9.out hwx HB1.out
            obtain ⟨d0, f0⟩ := cell_atR hbx 0
            have e1 := set_at (i := 0) (.slice none 0 0) hbx
            have p0 := (cell_atR e1 0).1
            have BE := Lib.hid (BW9.out.setCell (p := ⟨x, 0, none⟩) (by rw [HXE.out]; exact Nat.le_refl _) (.slice none 0 0))
            have hw64 : IntKind.i64.wrap ((j : Int) + 1) = ((j + 1 : Nat) : Int) := by rw [IntKind.wrap_i64]; omega
            clear hbx e1 e0 NX2
            go_wp2
            refine bodyPost_ret (v := .tuple #[.agg #[.slice none 0 0], .int .i64 ((j + 1 : Nat) : Int), .int .i64 R2]) (by simp [results, Tryd.results20, go_sem, p0]) rfl ?_
            unfold ParseP
            rw [HF.out]
            exact ⟨none, 0, 0, rfl, reg_nil _, by first | exact BE.out | (rw [← HXE.out] at BE; exact BE.out)⟩
      · obtain rfl : n = j := by omega
        have hf : runP 0 [] (L.map words) = (st, 0, 0) := by
          rw [hat.out, ← HN.out, List.drop_length]; rfl
        have HF : Hid (parseP s = (st, 0, 0)) := by show _ = _; rw [PS.out, hf]
        clear hf
        obtain ⟨c0, -⟩ := cell_atR BX.out 0
        have hbx := blk bel.out hwx HB1.out
        obtain ⟨d0, f0⟩ := cell_atR hbx 0
        have e1 := set_at (i := 0) (.slice a N c) hbx
        have p0 := (cell_atR e1 0).1
        have R9 := Lib.hid (REG.out.set (v := .slice a N c) hbx)
        have BE := Lib.hid (BL.out.setCell (p := ⟨x, 0, none⟩) (by rw [HXE.out]; exact Nat.le_refl _) (.slice a N c))
        clear hbx e1
        go_wp2
        refine bodyPost_ret (v := .tuple #[.agg #[.slice a N c], .int .i64 0, .int .i64 0]) (by simp [results, Tryd.results20, go_sem, p0]) rfl ?_
        unfold ParseP
        rw [HF.out]
        exact ⟨_, _, _, rfl, R9.out, by first | exact BE.out | (rw [← HXE.out] at BE; exact BE.out)⟩
end Go.Proofs.YtceidbjjciejhaaDoor.reg

/- The tables that the calls of layer 5 read, where the program laid them. No walk in this text. -/
namespace Go.Proofs.YtceidbjjciejhaaDoor.reg
open Go.RowKit lex net aggs kit strs cal

theorem RTabs.of {w : World} {zs ps : List Int} {ks : List (List UInt8)} (hz : zs = (List.range 128).map clsI) (hp : ps = Lib.pow10Tab) (hk : ks = (List.range 5).map kwd) (hc : Lib.TabIs Tryd.prog w "permitoffice/lexeme.classes" .u8 zs) (hw : Lib.TabIs Tryd.prog w "internal/strconv.uint64pow10" .u64 ps) (hs : strs.StrTab Tryd.prog w "permitoffice/register.keywords" ks) (hm : HasMax w) : RTabs w where
  ct := ⟨Tabs.of hz hp hc hw, hm⟩
  kws := fun k h5 => hs.cell gKws k (kwd k) (by
    rw [hk, List.getElem?_map, List.getElem?_range h5]; rfl)
end Go.Proofs.YtceidbjjciejhaaDoor.reg

/- For every list of numbers RegisterTexts returns true: a register survives its text, with its lines in any order. Condition: the tables hold what their texts lay (the card ties that). -/
namespace Go.Proofs.YtceidbjjciejhaaDoor.reg
open Go.RowKit lex aggs kit net deck strs cal

/-- what the law holds: a register in a box, the tables -/
structure Rx (W0 W : World) (rb : Nat) (a : Option Addr) (N c : Nat) (ps : List Pn) : Prop where
  below : Below W0.heap.size W0 W
  r : Bx W rb a N c ps
  tab : RTabs W
theorem Rx.step {W0 W W' : World} {rb : Nat} {a : Option Addr} {N c : Nat} {ps : List Pn} (h : Rx W0 W rb a N c ps) (b : Below W.heap.size W W') : Rx W0 W' rb a N c ps :=
  ⟨h.below.trans (b.mono h.below.size), h.r.below b, h.tab.below b⟩
theorem ok_one {ps : List Pn} (h : Ok ps) (k : Nat) (hk : k < ps.length) : Ok [ps[k]] :=
  ⟨by simp, fun p hp => by rw [List.mem_singleton.1 hp]; exact h.all _ (List.getElem_mem hk), List.pairwise_singleton _ _⟩
theorem reg_sub {W : World} {g o N c k : Nat} {ps : List Pn} (h : RegIn W (some ⟨g, o, none⟩) N c ps) (hk : k < ps.length) : RegIn W (some ⟨g, o + k * 5, none⟩) 1 (c - k) [ps[k]] where
  len := rfl
  rin := by
    rcases h.rin with h1 | ⟨g', o', e, hl, hc⟩
    · rw [h1.2] at hk; cases hk
    · injection e with e
      injection e with e1 e2
      subst e1 e2
      refine .inr ⟨g, o + k * 5, rfl, hl, fun i u hu => ?_⟩
      obtain ⟨c0, c1, c2, c3, c4⟩ := cells_pn hc k hk
      rw [show flat encPn [ps[k]] = encPn ps[k] from flat_one _ _] at hu
      match i, hu with
      | 0, hu => simp only [encPn] at hu; injection hu with hu; rw [← hu]; exact c0
      | 1, hu => simp only [encPn] at hu; injection hu with hu; rw [← hu]; exact c1
      | 2, hu => simp only [encPn] at hu; injection hu with hu; rw [← hu]; exact c2
      | 3, hu => simp only [encPn] at hu; injection hu with hu; rw [← hu]; exact c3
      | 4, hu => simp only [encPn] at hu; injection hu with hu; rw [← hu]; exact c4
      | i + 5, hu => simp [encPn] at hu
  fit := fun x hx => by rw [List.mem_singleton.1 hx]; exact h.fit _ (List.getElem_mem hk)
  ncap := by have := h.ncap; have := h.len; omega
  nmax := Nat.le_trans (Nat.sub_le _ _) h.nmax
  nil := fun e => by cases e
theorem back_step {ps : List Pn} {m : Nat} (hm : m < ps.length) {t u : ByteArray} (ht : t = bs (printP (ps.drop (m + 1)).reverse)) (hu : bs (printP [ps[m]]) = u) : t ++ u = bs (printP (ps.drop m).reverse) := by
  rw [ht, ← hu, bs_append, List.drop_eq_getElem_cons hm, List.reverse_cons, printP_append]
set_option maxRecDepth 100000 in
set_option maxHeartbeats 8000000 in
theorem texts_walk (la : Option Addr) (len cap : Nat) (zs : List Int) (W0 : World)
    (hr : IsRow .i64 W0 la len cap zs) (h : RTabs W0) :
    Calls Tryd.prog 5 #[.slice la len cap] W0 fun e w' => e = .returned (.bool true) ∧ Below W0.heap.size W0 w' := by
  have hl : len ≤ 9223372036854775807 := by
    rcases hr with ⟨_, h, _⟩ | ⟨_, _, h1, h2, _⟩
    · omega
    · unfold maxLen at h2; omega
  have H0 := Lib.hid h
  have HR0 := Lib.hid hr
  clear h hr
  by_cases h4 : len ≤ 400
  · have t1 : decide ((len : Int) ≤ 400) = true := decide_eq_true (by omega)
    go_enter Tryd.func5, Tryd.ntmps5
    go_wp2_with fail
    refine (few_any _ _ _ _ hl).mono ?_; rintro e w' ⟨rfl, rfl⟩
    go_wp2_with fail
    refine (newg_any _ _ _ _).mono ?_; rintro e w1 ⟨rfl, g1⟩
    have hbw := g1.lt
    obtain ⟨bd, hbd⟩ : ∃ b, W0.heap.size = b := ⟨_, rfl⟩
    have HB := Lib.hid hbd
    rw [hbd] at hbw g1 ⊢
    clear hbd h4 t1 hl
    go_wp2_with fail
    refine (some_is g1 HR0.out).mono ?_; rintro e w2 ⟨a, N, c, ps, rfl, rg, ok, l6, g2, gb2⟩
    obtain ⟨W1, hW1⟩ : ∃ W, (w2.alloc (.cells #[.slice none 0 0] 29)).setCell ⟨w2.heap.size, 0, none⟩ (.slice a N c) = W := ⟨_, rfl⟩
    obtain ⟨o1, b1, l1, c0, z0⟩ := boxed w2 a N c W1 hW1
    obtain ⟨rb, hrb⟩ : ∃ b, w2.heap.size = b := ⟨_, rfl⟩
    rw [hrb] at hW1 o1 l1 c0 z0
    have bw2 := g2.below
    have K : Hid (Rx W0 W1 rb a N c ps) := ⟨bw2.trans (b1.mono bw2.size), ⟨o1, rg.below b1⟩, H0.out.below (bw2.trans (b1.mono bw2.size))⟩
    have OKP := Lib.hid ok
    have hN : N ≤ 6 := by rw [← rg.len]; exact l6
    have LN := Lib.hid rg.len
    have hca := rg.nmax
    have hnc := rg.ncap
    unfold maxLen at hca
    have htl := text_len ok.all
    rw [LN.out] at htl
    clear b1 o1 rg ok g1 g2 gb2 l6 hbw l1 bw2
    obtain ⟨k4, -⟩ := K.out.r.one
    go_wp2_with fail
    first | rw [hW1] | skip
    clear hW1 c0 z0 hrb k4
    refine (print_good a N c ps _ K.out.tab K.out.r.reg OKP.out).mono ?_; rintro e w3 ⟨rfl, b3⟩
    have K := Lib.hid (K.out.step b3)
    clear b3
    have PP := Lib.hid (parse_is (printP ps) w3 K.out.tab (by omega))
    unfold ParseP at PP
    rw [parse_print OKP.out] at PP
    dsimp only at PP
    go_wp2_with fail
    refine PP.out.mono ?_; rintro e w4 ⟨a7, N7, c7, rfl, r7, b4⟩
    have K := Lib.hid (K.out.step b4)
    obtain ⟨V7, hV7⟩ : ∃ W, (w4.alloc (.cells #[.slice none 0 0] 29)).setCell ⟨w4.heap.size, 0, none⟩ (.slice a7 N7 c7) = W := ⟨_, rfl⟩
    obtain ⟨o7, bb7, -, c0, z0⟩ := boxed w4 a7 N7 c7 V7 hV7
    have X7 : Hid (Bx V7 w4.heap.size a7 N7 c7 ps) := ⟨o7, r7.below bb7⟩
    have K := Lib.hid (K.out.step bb7)
    obtain ⟨g7, hg7⟩ : ∃ b, w4.heap.size = b := ⟨_, rfl⟩
    rw [hg7] at X7 hV7 c0 z0
    clear o7 bb7 r7 b4 PP
    have hwN : IntKind.i64.wrap ((N : Int) - 1) = (N : Int) - 1 := by rw [IntKind.wrap_i64]; omega
    obtain ⟨k4, -⟩ := K.out.r.one
    go_wp2_with fail
    first | rw [hV7] | skip
    clear hV7 c0 z0 hg7 k4
    go_loopw [10, 11] (fun tv iv wr => ∃ (k : Nat) (t : ByteArray), k ≤ N ∧ iv = .int .i64 ((k : Int) - 1) ∧ tv = .string t ∧ t.size ≤ 411 * (N - k) ∧ Hid (t = bs (printP (ps.drop k).reverse)) ∧ Hid (Rx W0 wr rb a N c ps) ∧ Hid (Bx wr g7 a7 N7 c7 ps)) (fun _ i _ => ((intOf i) + 1).toNat)
    case atStart => exact ⟨N, _, Nat.le_refl _, rfl, rfl, by simp [ByteArray.size], by show _ = _; rw [← LN.out, List.drop_length]; rfl, K, X7⟩
    case round =>
      clear K X7
      obtain ⟨k, t, hk, rfl, rfl, htz, ht, K, X7⟩ := hrel
      obtain ⟨k4, -⟩ := K.out.r.one
      cases k with
      | zero =>
        have T0 : decide ((0 : Int) ≤ ((0 : Nat) : Int) - 1) = false := rfl
        have B0 : Hid (t = bs (printP ps.reverse)) := by show _ = _; rw [ht.out, List.drop_zero]
        have hrl := text_len (qs := ps.reverse) (fun q hq => OKP.out.all q (List.mem_reverse.1 hq))
        rw [List.length_reverse, LN.out] at hrl
        have PP := Lib.hid (fun W (b : RTabs W) => parse_is (printP ps.reverse) W b (by omega))
        unfold ParseP at PP
        rw [parse_back OKP.out] at PP
        dsimp only at PP
        rw [← B0.out] at PP
        clear k4 ht hrl B0
        go_wp2_with fail
        refine (PP.out _ K.out.tab).mono ?_; rintro e w5 ⟨a8, N8, c8, rfl, r8, b5⟩
        have K := Lib.hid (K.out.step b5)
        have X7 := Lib.hid (X7.out.below b5)
        obtain ⟨V8, hV8⟩ : ∃ W, (w5.alloc (.cells #[.slice none 0 0] 29)).setCell ⟨w5.heap.size, 0, none⟩ (.slice a8 N8 c8) = W := ⟨_, rfl⟩
        obtain ⟨o8, bb8, -, c0, z0⟩ := boxed w5 a8 N8 c8 V8 hV8
        have X8 : Hid (Bx V8 w5.heap.size a8 N8 c8 ps) := ⟨o8, r8.below bb8⟩
        have K := Lib.hid (K.out.step bb8)
        have X7 := Lib.hid (X7.out.below bb8)
        obtain ⟨g8, hg8⟩ : ∃ b, w5.heap.size = b := ⟨_, rfl⟩
        rw [hg8] at X8 hV8 c0 z0
        clear o8 bb8 r8 b5 PP
        obtain ⟨k4, -⟩ := K.out.r.one
        obtain ⟨k7, -⟩ := X7.out.one
        obtain ⟨k8, -⟩ := X8.out.one
        go_wp2_with fail
        first | rw [hV8] | skip
        clear hV8 c0 z0 hg8 k4 k7 k8
        refine (rsame_is a7 a N7 c7 N c ps ps true _ X7.out.reg K.out.r.reg ⟨fun _ => rfl, fun _ => rfl⟩).mono ?_; rintro e w6 ⟨rfl, b6⟩
        have K := Lib.hid (K.out.step b6)
        have X8 := Lib.hid (X8.out.below b6)
        obtain ⟨k4, -⟩ := K.out.r.one
        obtain ⟨k8, -⟩ := X8.out.one
        clear b6
        go_wp2_with fail
        clear k4 k8
        refine (rsame_is a8 a N8 c8 N c ps ps true _ X8.out.reg K.out.r.reg ⟨fun _ => rfl, fun _ => rfl⟩).mono ?_; rintro e w7 ⟨rfl, b7⟩
        have K := Lib.hid (K.out.step b7)
        clear b7
        go_wp2_with fail
        refine (awake_is _ K.out.tab.ct.tabs.cls).mono ?_; rintro e w8 ⟨rfl, b8⟩
        have K := Lib.hid (K.out.step b8)
        clear b8
        go_wp2
        go_ret
        exact ⟨rfl, K.out.below⟩
      | succ m =>
        have hm1 : (((m + 1 : Nat) : Int) - 1) = (m : Int) := by omega
        rw [hm1]
        have hml : m < ps.length := by rw [LN.out]; omega
        have T0 : decide ((0 : Int) ≤ (m : Int)) = true := decide_eq_true (by omega)
        obtain ⟨g, o, hae, hg, -⟩ := K.out.r.reg.rin.some (by omega)
        subst hae
        have RS := Lib.hid (reg_sub K.out.r.reg hml)
        have PR := Lib.hid (print_good _ _ _ _ _ K.out.tab RS.out (ok_one OKP.out m hml))
        obtain ⟨u, hu⟩ : ∃ u, bs (printP [ps[m]]) = u := ⟨_, rfl⟩
        have HX := Lib.hid (back_step hml ht.out hu)
        have hus : u.size ≤ 411 := by
          rw [← hu, bs_size]
          have := text_len (ok_one OKP.out m hml).all
          simpa using this
        rw [hu] at PR
        clear hu
        have hwm : IntKind.i64.wrap ((m : Int) + 1) = (m : Int) + 1 := by rw [IntKind.wrap_i64]; omega
        go_wp2_with fail
        refine PR.out.mono ?_; rintro e w5 ⟨rfl, b5⟩
        have K := Lib.hid (K.out.step b5)
        have X7 := Lib.hid (X7.out.below b5)
        clear b5 k4 PR RS T0
        have hwb : IntKind.i64.wrap ((m : Int) - 1) = (m : Int) - 1 := by rw [IntKind.wrap_i64]; omega
        go_wp2
        go_roundw
        case rel => exact ⟨m, _, by omega, rfl, rfl, by rw [ByteArray.size_append]; omega, HX, K, X7⟩
        case measure => simp [intOf]
  · have t1 : decide ((len : Int) ≤ 400) = false := decide_eq_false (by omega)
    go_enter Tryd.func5, Tryd.ntmps5
    go_wp2_with fail
    refine (few_any _ _ _ _ hl).mono ?_; rintro e w' ⟨rfl, rfl⟩
    go_wp2_with fail
    refine (awake_is _ H0.out.ct.tabs.cls).mono ?_; rintro e w4 ⟨rfl, b4⟩
    have BZ := Lib.hid b4
    clear b4
    go_wp2
    go_ret
    exact ⟨rfl, BZ.out⟩
end Go.Proofs.YtceidbjjciejhaaDoor.reg
