/- The walk of 'some' of the statements of layer 5: a register that is made of numbers. It is valid. No condition. -/
import Derived.Test.YtceidbjjciejhaaDoorRgI
import Derived.Test.YtceidbjjciejhaaDoorRgF
import Derived.Test.YtceidbjjciejhaaDoorInv3
namespace Go.Proofs.YtceidbjjciejhaaDoor.reg
open Go.RowKit lex aggs kit net deck

/-- a register is kept while another block is written, in which no text lies -/
theorem RegIn.other {W W' : World} {a : Option Addr} {N c b : Nat} {ps : List Pn} (h : RegIn W a N c ps) (hs : ∀ i s, W.cell? ⟨b, i, none⟩ ≠ some (.string s)) (hg : W.grownBy W' (some b)) : RegIn W' a N c ps := by
  refine { h with rin := ?_ }
  rcases h.rin with h1 | ⟨g, o, e, hl, hc⟩
  · exact .inl h1
  · refine .inr ⟨g, o, e, Nat.lt_of_lt_of_le hl hg.size, ?_⟩
    cases ps with
    | nil => intro i u hu; simp [flat] at hu
    | cons p r =>
      have hne : g ≠ b := by
        rintro rfl
        exact hs _ _ (cells_pn hc 0 (by simp)).1
      intro i u hu
      exact (World.cell?_of_block (a := ⟨g, o + i, none⟩) (hg.block g hl (by simpa using hne))).trans (hc i u hu)
theorem RegIn.far {W W' : World} {a la : Option Addr} {N c bd len cap : Nat} {ps : List Pn} (h : RegIn W a N c ps) (hd : IsDeck W bd la len cap) (hg : W.grownBy W' (some bd)) : RegIn W' a N c ps := by
  refine h.other (fun o s c0 => ?_) hg
  obtain ⟨k, s', -, -, -, hb⟩ := hd
  simp only [World.cell?, hb] at c0
  match o, c0 with
  | 0, c0 => simp at c0
  | 1, c0 => simp at c0
  | 2, c0 => simp at c0
  | o + 3, c0 => simp at c0
theorem RegIn.box {W W' : World} {a y : Option Addr} {N c b T m k : Nat} {ps : List Pn} (h : RegIn W a N c ps) (hb : W.heap[b]? = some (.cells #[.slice y m k] T (0, 0))) (hg : W.grownBy W' (some b)) : RegIn W' a N c ps := by
  refine h.other (fun o s c0 => ?_) hg
  simp only [World.cell?, hb] at c0
  match o, c0 with
  | 0, c0 => simp at c0
  | o + 1, c0 => simp at c0
theorem gb_of_below {W W' : World} (h : Below W.heap.size W W') (row : Option Nat) : W.grownBy W' row := ⟨h.os, h.tape, h.output, h.size, fun k hk _ => h.block k hk⟩
theorem add_ok {ps : List Pn} {p : Pn} (h : Ok ps) (hp : pnE p = 0) : Ok (addP ps p).1 ∧ (addP ps p).1.length ≤ ps.length + 1 := by
  by_cases e : (addP ps p).2 = 0
  · obtain ⟨-, -, -, -, h5, h6⟩ := addP_ok e
    exact ⟨by rw [h5]; exact h6, by rw [h5, ins_pos, List.length_append, List.length_cons, List.length_take, List.length_drop]; omega⟩
  · have : (addP ps p).1 = [] := by
      unfold addP at e ⊢
      rw [if_neg (by simp [chkP_zero.2 h]), if_neg (by simp [hp])] at e ⊢
      by_cases h3 : fnd (nmsP ps) p.nm = -1
      · rw [if_neg (by simp [h3])] at e ⊢
        by_cases h4 : 64 ≤ ps.length
        · rw [if_pos h4]
        · rw [if_neg h4] at e; exact absurd rfl e
      · rw [if_pos h3]
    rw [this]
    exact ⟨⟨Nat.zero_le _, (fun _ h => by cases h), List.Pairwise.nil⟩, Nat.zero_le _⟩
/-- what 'some' leaves -/
def SomePost (w0 w : World) (la : Option Addr) (len cap bd : Nat) (e : Ending) (w' : World) : Prop :=
  ∃ a N c ps, e = .returned (.agg #[.slice a N c]) ∧ RegIn w' a N c ps ∧ Ok ps ∧ ps.length ≤ 6 ∧ Game w0 w' bd la len cap ∧ w.grownBy w' (some bd)
/-- while somebody is added -/
def SAdd (w0 w : World) (la : Option Addr) (len cap bd n : Nat) (done : Nat → Bool) (vs : Nat → Value) (W : World) : Prop :=
  Game w0 W bd la len cap ∧ w.grownBy W (some bd) ∧ (done 8 = true → ∃ B a N c qs, vs 7 = .pointer (some ⟨B, 0, none⟩) ∧ W.heap[B]? = some (.cells #[.slice a N c] 29 (0, 0)) ∧ B ≠ bd ∧ w.heap.size ≤ B ∧ RegIn W a N c qs ∧ Ok qs ∧ qs.length ≤ n + 1)
theorem SAdd.step {w0 w W W' : World} {la : Option Addr} {len cap bd n : Nat} {done done' : Nat → Bool} {vs vs' : Nat → Value} (h : SAdd w0 w la len cap bd n done vs W) (g : Game w0 W' bd la len cap) (hg : W.grownBy W' (some bd)) (hd : done' 8 = true → done 8 = true) (hv : done 8 = true → vs' 7 = vs 7) : SAdd w0 w la len cap bd n done' vs' W' := by
  obtain ⟨h1, h2, h3⟩ := h
  refine ⟨g, gb_tr h2 hg, fun h8 => ?_⟩
  obtain ⟨B, a, N, c, qs, q1, q2, q3, q4, q5, q6, q7⟩ := h3 (hd h8)
  exact ⟨B, a, N, c, qs, by rw [hv (hd h8)]; exact q1, by rw [hg.block B (lt_of_block q2) (by simpa using q3)]; exact q2, q3, q4, q5.far h1.deck hg, q6, q7⟩
theorem SAdd.mark {w0 w W : World} {la : Option Addr} {len cap bd n : Nat} {done : Nat → Bool} {vs : Nat → Value} (h : SAdd w0 w la len cap bd n done vs W) (i : Nat) (v : Value) (h8 : i ≠ 8) (h7 : i ≠ 7) : SAdd w0 w la len cap bd n (fun j => if j = i then true else done j) (inv.upd vs i v) W :=
  h.step h.1 (gb_refl W _) (fun q => by simpa [h8.symm] using q) (fun _ => if_neg (fun e => h7 e.symm))
def DSm (bd : Nat) (a : Option Addr) (N c n z : Nat) : Nat → Value → World → Prop
  | 0, v, _ => v = .agg #[.slice a N c]
  | 1, v, _ => v = .pointer (some ⟨bd, 0, none⟩)
  | 2, v, _ => ∃ p : Pn, v = pnV p ∧ pnE p = 0 ∧ p.nm.size ≤ maxLen
  | 3, v, W => ∃ a' N' c' qs E, v = .tuple #[.agg #[.slice a' N' c'], .int .i64 E] ∧ RegIn W a' N' c' qs ∧ Ok qs ∧ qs.length ≤ n + 1
  | 4, v, W => ∃ a' N' c' qs E, v = .tuple #[.agg #[.slice a' N' c'], .int .i64 E] ∧ RegIn W a' N' c' qs ∧ Ok qs ∧ qs.length ≤ n + 1
  | 5, v, W => ∃ a' N' c' qs, v = .agg #[.slice a' N' c'] ∧ RegIn W a' N' c' qs ∧ Ok qs ∧ qs.length ≤ n + 1
  | 6, v, _ => ∃ E : Int, v = .int .i64 E
  | 7, v, W => ∃ B y0 y1 y2, v = .pointer (some ⟨B, 0, none⟩) ∧ W.heap[B]? = some (.cells #[.slice y0 y1 y2] 29 (0, 0)) ∧ B ≠ bd ∧ z ≤ B
  | 9, v, _ => ∃ E : Int, v = .int .i64 E
  | _, _, _ => True
theorem _root_.Go.World.grownBy.block_at {W W' : World} {row : Option Nat} {b : Nat} {o : Obj} (h : W.grownBy W' row) (hb : W.heap[b]? = some o) (hl : b < W.heap.size) (hne : some b ≠ row) : W'.heap[b]? = some o := by rw [h.block b hl hne]; exact hb
theorem DSm.kept {bd : Nat} {a la : Option Addr} {N c n z len cap : Nat} {W W' : World} (hd : IsDeck W bd la len cap) (hg : W.grownBy W' (some bd)) : ∀ j v, DSm bd a N c n z j v W → DSm bd a N c n z j v W'
  | 0, _, h | 1, _, h | 2, _, h | 6, _, h | 8, _, h | 9, _, h | _ + 10, _, h => h
  | 3, _, ⟨a', N', c', qs, E, h1, h2, h3⟩ => ⟨a', N', c', qs, E, h1, h2.far hd hg, h3⟩
  | 4, _, ⟨a', N', c', qs, E, h1, h2, h3⟩ => ⟨a', N', c', qs, E, h1, h2.far hd hg, h3⟩
  | 5, _, ⟨a', N', c', qs, h1, h2, h3⟩ => ⟨a', N', c', qs, h1, h2.far hd hg, h3⟩
  | 7, _, ⟨B, y0, y1, y2, h1, h2, h3⟩ => ⟨B, y0, y1, y2, h1, by rw [hg.block B (lt_of_block h2) (by simpa using h3.1)]; exact h2, h3⟩
theorem DSm.kept3 {bd b m k m' k' : Nat} {a y y' : Option Addr} {N c n z : Nat} {W W' : World} (hb : W.heap[b]? = some (.cells #[.slice y m k] 29 (0, 0))) (hb' : W'.heap[b]? = some (.cells #[.slice y' m' k'] 29 (0, 0))) (hg : W.grownBy W' (some b)) : ∀ j v, DSm bd a N c n z j v W → DSm bd a N c n z j v W'
  | 0, _, h | 1, _, h | 2, _, h | 6, _, h | 8, _, h | 9, _, h | _ + 10, _, h => h
  | 3, _, ⟨a', N', c', qs, E, h1, h2, h3⟩ => ⟨a', N', c', qs, E, h1, h2.box hb hg, h3⟩
  | 4, _, ⟨a', N', c', qs, E, h1, h2, h3⟩ => ⟨a', N', c', qs, E, h1, h2.box hb hg, h3⟩
  | 5, _, ⟨a', N', c', qs, h1, h2, h3⟩ => ⟨a', N', c', qs, h1, h2.box hb hg, h3⟩
  | 7, _, ⟨B, y0, y1, y2, h1, h2, h3⟩ => by
    by_cases e : B = b
    · subst e; exact ⟨B, _, _, _, h1, hb', h3⟩
    · exact ⟨B, y0, y1, y2, h1, by rw [hg.block B (lt_of_block h2) (by simpa using e)]; exact h2, h3⟩
set_option maxRecDepth 100000 in
set_option maxHeartbeats 4000000 in
theorem some_is {W0 w : World} {la : Option Addr} {len cap bd : Nat} {zs : List Int} (g : Game W0 w bd la len cap) (hr : IsRow .i64 W0 la len cap zs) :
    Calls Tryd.prog 10 #[.pointer (some ⟨bd, 0, none⟩)] w (SomePost W0 w la len cap bd) := by
  have HR0 := Lib.hid hr
  have hb0 := g.lt
  have hz := heap_alloc_new w (.cells #[.slice none 0 0] 29)
  have hz2 := heap_alloc_new (w.alloc (.cells #[.slice none 0 0] 29)) (.cells #[.slice none 0 0] 29)
  have hz1 : ((w.alloc (.cells #[.slice none 0 0] 29)).alloc (.cells #[.slice none 0 0] 29)).heap[w.heap.size]? = _ := ((below_box (w.alloc (.cells #[.slice none 0 0] 29)) (.cells #[.slice none 0 0] 29)).block w.heap.size (by simp)).trans hz
  have G1 := Lib.hid ((g.alloc (.cells #[.slice none 0 0] 29)).alloc (.cells #[.slice none 0 0] 29))
  have B1 := Lib.hid (grown_alloc (grown_alloc (gb_refl w (some bd)) (.cells #[.slice none 0 0] 29)) (.cells #[.slice none 0 0] 29))
  rw [World.size_alloc] at hz2
  obtain ⟨x, hx⟩ : ∃ x, w.heap.size = x := ⟨_, rfl⟩
  obtain ⟨W1, hW1⟩ : ∃ W, (w.alloc (.cells #[.slice none 0 0] 29)).alloc (.cells #[.slice none 0 0] 29) = W := ⟨_, rfl⟩
  rw [hW1] at hz1 hz2 G1 B1
  rw [hx] at hz1 hz2 hb0
  have HZ1 := Lib.hid hz1
  have HZ2 := Lib.hid hz2
  have hxb : x ≠ bd := by omega
  have hxb1 : x + 1 ≠ bd := by omega
  clear hr g hz hz1 hz2
  go_enter Tryd.func10, Tryd.ntmps10
  go_wp2_with fail
  refine (G1.out.next HR0.out 7 (by decide)).mono ?_; rintro e V1 ⟨k, rfl, k0, k1, gm, gb⟩
  rw [show max (7 : Int) 1 = 7 from rfl] at k1
  obtain ⟨k, rfl⟩ : ∃ k' : Nat, k = k' := ⟨k.toNat, by omega⟩
  have GV := Lib.hid gm
  have BV := Lib.hid (gb_tr B1.out gb)
  have Z1 := Lib.hid (gb.block_at HZ1.out (lt_of_block HZ1.out) (by simpa using hxb))
  have Z2 := Lib.hid (gb.block_at HZ2.out (lt_of_block HZ2.out) (by simpa using hxb1))
  clear gm gb k0
  go_wp2
  go_loopw [4] (fun i wr => ∃ (k : Nat) (a : Option Addr) (N c : Nat) (ps : List Pn), i = .int .i64 k ∧ k ≤ 6 ∧ Hid (Game W0 wr bd la len cap) ∧ Hid (w.grownBy wr (some bd)) ∧ Hid (wr.heap[x]? = some (.cells #[.slice none 0 0] 29 (0, 0))) ∧ Hid (wr.heap[x + 1]? = some (.cells #[.slice a N c] 29 (0, 0))) ∧ Hid (RegIn wr a N c ps) ∧ Hid (Ok ps) ∧ Hid (ps.length + k ≤ 6)) (fun i _ => (intOf i).toNat)
  case atStart => exact ⟨k, none, 0, 0, [], rfl, by omega, GV.out, BV.out, Z1.out, Z2.out, reg_nil _, ⟨Nat.zero_le _, (fun _ h => by cases h), List.Pairwise.nil⟩, by show 0 + k ≤ 6; omega⟩
  case round =>
    obtain ⟨k, a, N, c, ps, rfl, hk6, GX, GB, BX1, BX, REG, OKP, LN⟩ := hrel
    by_cases hk : 0 < k
    · have T1 : decide ((0 : Int) < (k : Int)) = true := decide_eq_true (by omega)
      have hwk : IntKind.i64.wrap ((k : Int) - 1) = ((k - 1 : Nat) : Int) := by rw [IntKind.wrap_i64]; omega
      have BXL := Lib.hid (lt_of_block BX.out)
      have BXN : Hid (some (x + 1) ≠ some bd) := by show _ ≠ _; simpa using hxb1
      have GD := Lib.hid GX.out.deck
      have HS0 : Hid (∀ yh, SAdd W0 wr la len cap bd ps.length (fun _ => false) yh wr.drew) := fun yh => ⟨GX.out.drew, gb_drew (gb_refl wr _), fun h => by cases h⟩
      go_wp2_with fail
      go_wp2
      refine inv.wp_region_inv3 (SAdd W0 wr la len cap bd ps.length) (DSm bd a N c ps.length wr.heap.size) (by kernel_rfl) (by kernel_rfl) (HS0.out _) ?steps ?rest
      case steps =>
        refine ⟨fun vs W done hS hD hno hold hcl hme K hK => ?_, fun vs W done hS hD hno hold hcl hme K hK => ?_, fun vs W done hS hD hno hold hcl hme K hK => ?_, fun vs W done hS hD hno hold hcl hme K hK => ?_, fun vs W done hS hD hno hold hcl hme K hK => ?_, fun vs W done hS hD hno hold hcl hme K hK => ?_, fun vs W done hS hD hno hold hcl hme K hK => ?_, fun vs W done hS hD hno hold hcl hme K hK => ?_, fun vs W done hS hD hno hold hcl hme K hK => ?_, fun vs W done hS hD hno hold hcl hme K hK => ?_, trivial⟩
        · clear hold; clear hcl; simp only [inv.dstsL, inv.putT, Nat.reduceAdd, List.set_cons_zero, List.set_cons_succ]
          have c0 := (cell_at (hS.2.1.block_at BX.out BXL.out BXN.out) 0).1
          go_simp
          exact hK _ _ _ (by simp only [inv.dstsL, inv.putT, Nat.reduceAdd, List.set_cons_zero, List.set_cons_succ]; (try rfl)) (hS.mark 0 _ (by decide) (by decide)) (rfl) (fun _ _ _ _ h => h)
        · clear hold; clear hcl; simp only [inv.dstsL, inv.putT, Nat.reduceAdd, List.set_cons_zero, List.set_cons_succ]
          go_simp
          exact hK _ _ _ (by simp only [inv.dstsL, inv.putT, Nat.reduceAdd, List.set_cons_zero, List.set_cons_succ]; (try rfl)) (hS.mark 1 _ (by decide) (by decide)) (rfl) (fun _ _ _ _ h => h)
        · clear hold; clear hcl; simp only [inv.dstsL, inv.putT, Nat.reduceAdd, List.set_cons_zero, List.set_cons_succ]
          have h1 : (vs 1) = .pointer (some ⟨bd, 0, none⟩) := hD 1 (by kernel_rfl)
          rw [h1]
          go_simp
          refine (person_is hS.1 HR0.out).mono ?_; rintro e W2 ⟨p, rfl, p0, p1, g2, gb2⟩
          exact hK _ _ _ (by simp only [inv.dstsL, inv.putT, Nat.reduceAdd, List.set_cons_zero, List.set_cons_succ, h1]; (try rfl)) (hS.step g2 gb2 (fun q => by simpa using q) (fun _ => rfl)) (⟨p, rfl, p0, p1⟩) (fun j v _ _ => (DSm.kept hS.1.deck gb2) j v)
        · clear hold; clear hcl; simp only [inv.dstsL, inv.putT, Nat.reduceAdd, List.set_cons_zero, List.set_cons_succ]
          have h0 : (vs 0) = .agg #[.slice a N c] := hD 0 (by kernel_rfl)
          have h2 : ∃ p : Pn, (vs 2) = pnV p ∧ pnE p = 0 ∧ p.nm.size ≤ maxLen := hD 2 (by kernel_rfl)
          obtain ⟨p, h2, p0, p1⟩ := h2
          rw [h0, h2]
          go_simp
          have hreg := REG.out.far GD.out hS.2.1
          refine (radd_is a N c ps p W hreg p1).mono ?_; rintro e W2 ⟨a', N', c', rfl, g2, b2⟩
          have ao := add_ok OKP.out p0
          exact hK _ _ _ (by simp only [inv.dstsL, inv.putT, Nat.reduceAdd, List.set_cons_zero, List.set_cons_succ, h0, h2]; (try rfl)) (hS.step (hS.1.by_below b2) (gb_of_below b2 _) (fun q => by simpa using q) (fun _ => rfl)) (⟨_, _, _, _, _, rfl, g2, ao.1, ao.2⟩) (fun j v _ _ => (DSm.kept hS.1.deck (gb_of_below b2 _)) j v)
        · clear hold; clear hcl; simp only [inv.dstsL, inv.putT, Nat.reduceAdd, List.set_cons_zero, List.set_cons_succ]
          have h3 : ∃ a' N' c' qs E, (vs 3) = .tuple #[.agg #[.slice a' N' c'], .int .i64 E] ∧ RegIn W a' N' c' qs ∧ Ok qs ∧ qs.length ≤ ps.length + 1 := hD 3 (by kernel_rfl)
          obtain ⟨a', N', c', qs, E, h3, r1, r2, r3⟩ := h3
          rw [h3]
          go_simp
          exact hK _ _ _ (by simp only [inv.dstsL, inv.putT, Nat.reduceAdd, List.set_cons_zero, List.set_cons_succ, h3]; (try rfl)) (hS.mark 4 _ (by decide) (by decide)) (⟨_, _, _, _, _, rfl, r1, r2, r3⟩) (fun _ _ _ _ h => h)
        · clear hold; clear hcl; simp only [inv.dstsL, inv.putT, Nat.reduceAdd, List.set_cons_zero, List.set_cons_succ]
          have h4 : ∃ a' N' c' qs E, (vs 4) = .tuple #[.agg #[.slice a' N' c'], .int .i64 E] ∧ RegIn W a' N' c' qs ∧ Ok qs ∧ qs.length ≤ ps.length + 1 := hD 4 (by kernel_rfl)
          obtain ⟨a', N', c', qs, E, h4, r1, r2, r3⟩ := h4
          rw [h4]
          go_simp
          exact hK _ _ _ (by simp only [inv.dstsL, inv.putT, Nat.reduceAdd, List.set_cons_zero, List.set_cons_succ, h4]; (try rfl)) (hS.mark 5 _ (by decide) (by decide)) (⟨_, _, _, _, rfl, r1, r2, r3⟩) (fun _ _ _ _ h => h)
        · clear hold; clear hcl; simp only [inv.dstsL, inv.putT, Nat.reduceAdd, List.set_cons_zero, List.set_cons_succ]
          have h4 : ∃ a' N' c' qs E, (vs 4) = .tuple #[.agg #[.slice a' N' c'], .int .i64 E] ∧ RegIn W a' N' c' qs ∧ Ok qs ∧ qs.length ≤ ps.length + 1 := hD 4 (by kernel_rfl)
          obtain ⟨a', N', c', qs, E, h4, r1, r2, r3⟩ := h4
          rw [h4]
          go_simp
          exact hK _ _ _ (by simp only [inv.dstsL, inv.putT, Nat.reduceAdd, List.set_cons_zero, List.set_cons_succ, h4]; (try rfl)) (hS.mark 6 _ (by decide) (by decide)) (⟨_, rfl⟩) (fun _ _ _ _ h => h)
        · clear hold; clear hcl; simp only [inv.dstsL, inv.putT, Nat.reduceAdd, List.set_cons_zero, List.set_cons_succ]
          have hne : W.heap.size ≠ bd := Nat.ne_of_gt hS.1.lt
          have d8 := hno 8 (by kernel_rfl)
          have bxx := below_box W (.cells #[.slice none 0 0] 29)
          have hnew := heap_alloc_new W (.cells #[.slice none 0 0] 29)
          go_simp
          exact hK _ _ _ (by simp only [inv.dstsL, inv.putT, Nat.reduceAdd, List.set_cons_zero, List.set_cons_succ]; (try rfl)) (hS.step (hS.1.by_below bxx) (gb_of_below bxx _) (fun q => by simpa using q) (fun q => by rw [d8] at q; cases q)) (⟨_, _, _, _, rfl, hnew, hne, hS.2.1.size⟩) (fun j v _ _ => (DSm.kept hS.1.deck (gb_of_below bxx _)) j v)
        · clear hold; clear hcl; simp only [inv.dstsL, inv.putT, Nat.reduceAdd, List.set_cons_zero, List.set_cons_succ]
          have h5 : ∃ a' N' c' qs, (vs 5) = .agg #[.slice a' N' c'] ∧ RegIn W a' N' c' qs ∧ Ok qs ∧ qs.length ≤ ps.length + 1 := hD 5 (by kernel_rfl)
          have h7 : ∃ B y0 y1 y2, (vs 7) = .pointer (some ⟨B, 0, none⟩) ∧ W.heap[B]? = some (.cells #[.slice y0 y1 y2] 29 (0, 0)) ∧ B ≠ bd ∧ wr.heap.size ≤ B := hD 7 (by kernel_rfl)
          obtain ⟨a', N', c', qs, h5, r1, r2, r3⟩ := h5
          obtain ⟨B, y0, y1, y2, h7, hb, hne, hwB⟩ := h7
          have HH7 := h7
          have GS : W.grownBy (W.setCell ⟨B, 0, none⟩ (.slice a' N' c')) (some B) := gb_set _ (gb_refl W (some B))
          obtain ⟨c0, f0⟩ := cell_at hb 0
          have hset := set_at (i := 0) (.slice a' N' c') hb
          rw [h5, h7]
          go_simp
          exact hK undef _ _ (by simp only [inv.dstsL, inv.putT, Nat.reduceAdd, List.set_cons_zero, List.set_cons_succ, h5, h7]; (try rfl)) (⟨hS.1.grown GS (fun e => by injection e with e; exact hne e.symm) (fun j hj => by cases hj; have := GX.out.mine; have := GX.out.lt; omega), hS.2.1.andThen GS (fun j hj => by cases hj; exact .inl hwB), fun _ => ⟨B, a', N', c', qs, HH7, hset, hne, hwB, r1.box hb GS, r2, r3⟩⟩) (by first | rfl | trivial) (fun j v _ _ h => DSm.kept3 hb hset GS j v h)
        · clear hold; clear hcl; simp only [inv.dstsL, inv.putT, Nat.reduceAdd, List.set_cons_zero, List.set_cons_succ]
          have h6 : ∃ E : Int, (vs 6) = .int .i64 E := hD 6 (by kernel_rfl)
          obtain ⟨E, h6⟩ := h6
          rw [h6]
          go_simp
          exact hK _ _ _ (by simp only [inv.dstsL, inv.putT, Nat.reduceAdd, List.set_cons_zero, List.set_cons_succ, h6]; (try rfl)) (hS.mark 9 _ (by decide) (by decide)) (⟨_, rfl⟩) (fun _ _ _ _ h => h)
      case rest =>
        intro vs W done hdone hS hD
        obtain ⟨g9, b9, h9⟩ := hS
        obtain ⟨B, a', N', c', qs, hp, hb9, hne9, hB9, r9, o9, l9⟩ := h9 (hdone 8 (by decide))
        obtain ⟨E, hE9⟩ : ∃ E : Int, vs 9 = .int .i64 E := hD 9 (by decide)
        simp only [inv.dstsL, inv.putT, Nat.reduceAdd, List.set_cons_zero, List.set_cons_succ]
        rw [hp, hE9]
        have Y1 := Lib.hid (b9.block_at BX1.out (lt_of_block BX1.out) (by simpa using hxb))
        have Y2 := Lib.hid (b9.block_at BX.out (lt_of_block BX.out) (by simpa using hxb1))
        have GB9 := Lib.hid (gb_tr GB.out b9)
        have GX9 := Lib.hid g9
        have HB9 := Lib.hid hb9
        have R0 := Lib.hid (REG.out.far GX.out.deck b9)
        have R9 := Lib.hid r9
        have O9 := Lib.hid o9
        have L9 := Lib.hid l9
        generalize vs 0 = y0, vs 1 = y1, vs 2 = y2, vs 3 = y3, vs 4 = y4, vs 5 = y5, vs 6 = y6 at *
        clear hD hdone h9 hp hE9 g9 b9 hb9 r9 o9 l9 HS0 BXL BXN GD
        by_cases e0 : E = 0
        · subst e0
          obtain ⟨c0, -⟩ := cell_at HB9.out 0
          obtain ⟨d0, f0⟩ := cell_at Y2.out 0
          have hset := set_at (i := 0) (.slice a' N' c') Y2.out
          have gs : W.grownBy (W.setCell ⟨x + 1, 0, none⟩ (.slice a' N' c')) (some (x + 1)) := gb_set _ (gb_refl W (some (x + 1)))
          have G10 := Lib.hid (GX9.out.grown gs (by simpa using fun e => hxb1 e.symm) (fun j hj => by cases hj; have := GX9.out.mine; omega))
          have B10 : Hid (w.grownBy (W.setCell ⟨x + 1, 0, none⟩ (.slice a' N' c')) (some bd)) := GB9.out.andThen gs (fun j hj => by cases hj; exact .inl (by omega))
          have R10 := Lib.hid (R9.out.box Y2.out gs)
          have Y10 := Lib.hid (gs.block_at Y1.out (lt_of_block Y1.out) (by simp))
          have S10 := Lib.hid hset
          clear hset gs
          go_wp2
          go_roundw
          case rel => exact ⟨k - 1, a', N', c', qs, by go_num, by omega, G10, B10, Y10, S10, R10, O9, by show _ ≤ _; have := LN.out; have := L9.out; omega⟩
          case measure => simp [intOf]; omega
        · have TE : (E == 0) = false := beq_eq_false_iff_ne.2 e0
          clear e0
          go_wp2
          go_roundw
          case rel => exact ⟨k - 1, a, N, c, ps, by go_num, by omega, GX9, GB9, Y1, Y2, R0, OKP, by show _ ≤ _; have := LN.out; omega⟩
          case measure => simp [intOf]; omega
    · obtain rfl : k = 0 := by omega
      have T1 : decide ((0 : Int) < ((0 : Nat) : Int)) = false := rfl
      obtain ⟨c0, -⟩ := cell_at BX.out 0
      obtain ⟨d0, f0⟩ := cell_at BX1.out 0
      have e1 := set_at (i := 0) (.slice a N c) BX1.out
      have p0 := (cell_at e1 0).1
      have gs : wr.grownBy (wr.setCell ⟨x, 0, none⟩ (.slice a N c)) (some x) := gb_set _ (gb_refl wr (some x))
      have G9 := Lib.hid (GX.out.grown gs (by simpa using fun e => hxb e.symm) (fun j hj => by cases hj; have := GX.out.mine; omega))
      have B9 : Hid (w.grownBy (wr.setCell ⟨x, 0, none⟩ (.slice a N c)) (some bd)) := GB.out.andThen gs (fun j hj => by cases hj; exact .inl (by omega))
      have R9 := Lib.hid (REG.out.box BX1.out gs)
      clear e1 gs
      go_wp2
      exact bodyPost_ret (v := .agg #[.slice a N c]) (by simp [results, Tryd.results10, go_sem, p0]) rfl ⟨_, _, _, _, rfl, R9.out, OKP.out, by have := LN.out; omega, G9.out, B9.out⟩
end Go.Proofs.YtceidbjjciejhaaDoor.reg
