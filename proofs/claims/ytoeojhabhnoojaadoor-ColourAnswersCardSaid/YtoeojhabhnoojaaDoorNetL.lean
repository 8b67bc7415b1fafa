/- The walks of layer 3 on the networks that are made of numbers: the whole network. What it gives: nodes and devices that are good, in rows of the call's own. -/
import Derived.Test.YtoeojhabhnoojaaDoorNetK
namespace Go.Proofs.YtoeojhabhnoojaaDoor.net
open Go.RowKit lex aggs kit deck

/-- a node is being made in block b of the round's own -/
structure NS (w0 wr W : World) (a : Option Addr) (len cap bd b : Nat) (nm : ByteArray) (cu co : Int) : Prop where
  gb : wr.grownBy W (some bd)
  gm : Game w0 W bd a len cap
  dv : ∃ T, W.heap[b]? = some (.cells #[.string nm, .int .i64 cu, .int .i64 co] T (0, 0))
  hb : wr.heap.size ≤ b
  hn : b ≠ bd
  mi : w0.heap.size ≤ b
section
variable {w0 wr W W1 : World} {a : Option Addr} {len cap bd b : Nat} {nm : ByteArray} {cu co : Int}
theorem NS.draw (h : NS w0 wr W a len cap bd b nm cu co) (g : W.grownBy W1 (some bd)) (m : Game w0 W1 bd a len cap) : NS w0 wr W1 a len cap bd b nm cu co where
  gb := h.gb.trans g
  gm := m
  dv := by obtain ⟨T, e⟩ := h.dv; exact ⟨T, by rw [g.block b (lt_of_block e) (by have := h.hn; simpa using this)]; exact e⟩
  hb := h.hb
  hn := h.hn
  mi := h.mi
theorem NS.set1 (h : NS w0 wr W a len cap bd b nm cu co) (v : Int) : NS w0 wr (W.setCell ⟨b, 1, none⟩ (.int .i64 v)) a len cap bd b nm v co where
  gb := gb_new _ h.gb h.hb
  gm := h.gm.grown (gb_set (b := b) _ (gb_refl W _)) (by have := h.hn; simp; omega) (fun k hk => by cases hk; exact h.mi)
  dv := by obtain ⟨T, e⟩ := h.dv; exact ⟨T, set_at _ e⟩
  hb := h.hb
  hn := h.hn
  mi := h.mi
theorem NS.set2 (h : NS w0 wr W a len cap bd b nm cu co) (v : Int) : NS w0 wr (W.setCell ⟨b, 2, none⟩ (.int .i64 v)) a len cap bd b nm cu v where
  gb := gb_new _ h.gb h.hb
  gm := h.gm.grown (gb_set (b := b) _ (gb_refl W _)) (by have := h.hn; simp; omega) (fun k hk => by cases hk; exact h.mi)
  dv := by obtain ⟨T, e⟩ := h.dv; exact ⟨T, set_at _ e⟩
  hb := h.hb
  hn := h.hn
  mi := h.mi
theorem NS.cells (h : NS w0 wr W a len cap bd b nm cu co) : W.cell? ⟨b, 0, none⟩ = some (.string nm) ∧ W.cell? ⟨b, 1, none⟩ = some (.int .i64 cu) ∧ W.cell? ⟨b, 2, none⟩ = some (.int .i64 co) ∧ W.frozen? ⟨b, 1, none⟩ = false ∧ W.frozen? ⟨b, 2, none⟩ = false := by
  obtain ⟨T, e⟩ := h.dv
  exact ⟨(cell_at e 0).1, (cell_at e 1).1, (cell_at e 2).1, (cell_at e 1).2, (cell_at e 2).2⟩
end
theorem NB.ptr0 {w0 wr : World} {a : Option Addr} {len cap bd x : Nat} {M : Int} {vn vd : Value} {ns : List Nd} {ds : List Dv} (h : NB w0 wr a len cap bd x M vn vd ns ds) : wr.cell? ⟨x, 0, none⟩ = some (.pointer (some ⟨bd, 0, none⟩)) := by
  obtain ⟨T, e⟩ := h.ptr; exact (cell_at e 0).1
theorem NB.net0 {w0 wr : World} {a : Option Addr} {len cap bd x : Nat} {M : Int} {vn vd : Value} {ns : List Nd} {ds : List Dv} (h : NB w0 wr a len cap bd x M vn vd ns ds) :
    wr.cell? ⟨x + 1 + 1 + 1, 0, none⟩ = some vn ∧ wr.cell? ⟨x + 1 + 1 + 1, 1, none⟩ = some vd ∧ wr.frozen? ⟨x + 1 + 1 + 1, 0, none⟩ = false ∧ wr.frozen? ⟨x + 1 + 1 + 1, 1, none⟩ = false := by
  obtain ⟨T, e⟩ := h.net; exact ⟨(cell_at e 0).1, (cell_at e 1).1, (cell_at e 0).2, (cell_at e 1).2⟩
/-- what Network leaves -/
def NetPost (w0 w : World) (a : Option Addr) (len cap bd nodes devices : Nat) (e : Ending) (w' : World) : Prop :=
  ∃ vn vd ns ds, e = .returned (.agg #[vn, vd]) ∧ Game w0 w' bd a len cap ∧ AggsAt 67 3 encNd w' w.heap.size vn ns ∧ AggsAt 57 5 encDv w' w.heap.size vd ds ∧
    GoodN ns ∧ GoodD ns.length ds ∧ 2 ≤ ns.length ∧ ns.length ≤ nodes ∧ 1 ≤ ds.length ∧ ds.length ≤ devices
theorem rem_ne (a t k : Nat) (ha : a < k) (h0 : 1 ≤ t) (h1 : t < k) : ((a : Int) + t).tmod k = (((a + t) % k : Nat) : Int) ∧ (a + t) % k < k ∧ (a + t) % k ≠ a := by
  refine ⟨?_, Nat.mod_lt _ (by omega), ?_⟩
  · rw [← Int.natCast_add, Int.tmod_eq_emod_of_nonneg (by omega)]; rfl
  · by_cases h : a + t < k
    · rw [Nat.mod_eq_of_lt h]; omega
    · rw [Nat.mod_eq_sub_mod (by omega), Nat.mod_eq_of_lt (by omega)]; omega
theorem its_line (N p q : Nat) (k : Nat) (hk1 : 1 ≤ k) (hk3 : k ≤ 3) (hp : p < N) (hq : q < N) (hne : q ≠ p) : itsB N ⟨ByteArray.empty, k, p, q, 0⟩ = true :=
  decide_eq_true ⟨by dsimp only; omega, .inl ⟨by dsimp only; omega, by dsimp only; omega, by dsimp only; omega, by dsimp only; omega⟩⟩
theorem its_end (N p : Nat) (k : Nat) (hk : 4 ≤ k) (hp : p < N) : itsB N ⟨ByteArray.empty, k, p, -1, 0⟩ = true :=
  decide_eq_true ⟨by dsimp only; omega, .inr ⟨by dsimp only; omega, rfl⟩⟩
theorem nb_start {w0 w : World} {a : Option Addr} {len cap bd : Nat} (M : Int) (T1 T2 T3 T4 : Nat) (g : Game w0 w bd a len cap) :
    NB w0 ((((w.alloc (.cells #[.pointer (some ⟨bd, 0, none⟩)] T1)).alloc (.cells #[.int .i64 M] T2)).alloc (.cells #[.slice none 0 0, .slice none 0 0] T3)).alloc (.cells #[.slice none 0 0, .slice none 0 0] T4)) a len cap bd w.heap.size M (.slice none 0 0) (.slice none 0 0) [] [] where
  game := (((g.alloc _).alloc _).alloc _).alloc _
  ptr := ⟨T1, by
    have b := ((below_box (w.alloc (.cells #[.pointer (some ⟨bd, 0, none⟩)] T1)) (.cells #[.int .i64 M] T2)).trans ((below_box _ (.cells #[.slice none 0 0, .slice none 0 0] T3)).mono (by simp))).trans ((below_box _ (.cells #[.slice none 0 0, .slice none 0 0] T4)).mono (by simp))
    rw [b.block _ (by simp)]; exact heap_alloc_new w _⟩
  lim := ⟨T2, dev2 _ _ _ _ _ |> fun h => by
    rw [(below_box _ (.cells #[.slice none 0 0, .slice none 0 0] T4)).block _ (by simp)]; exact h⟩
  res := ⟨T3, _, _, by
    rw [(below_box _ (.cells #[.slice none 0 0, .slice none 0 0] T4)).block _ (by simp)]; exact dev3 _ _ _ _ _⟩
  net := ⟨T4, by
    have h := heap_alloc_new (((w.alloc (.cells #[.pointer (some ⟨bd, 0, none⟩)] T1)).alloc (.cells #[.int .i64 M] T2)).alloc (.cells #[.slice none 0 0, .slice none 0 0] T3)) (.cells #[.slice none 0 0, .slice none 0 0] T4)
    simpa only [World.size_alloc] using h⟩
  rn := AggsAt.nil _ _ _ _ _
  rd := AggsAt.nil _ _ _ _ _
  lt := g.lt
  mine := g.below.size
  size := by simp

set_option maxRecDepth 100000 in
set_option maxHeartbeats 8000000 in
theorem network_is {w0 w : World} {a : Option Addr} {len cap bd : Nat} {zs : List Int} (g : Game w0 w bd a len cap) (hr : IsRow .i64 w0 a len cap zs) (nodes devices : Nat) (n2 : 3 ≤ nodes) (n10 : nodes ≤ 10) (d1 : 1 ≤ devices) (d20 : devices ≤ 20) :
    Calls Tryd.prog 12 #[.pointer (some ⟨bd, 0, none⟩), .int .i64 nodes, .int .i64 devices] w (NetPost w0 w a len cap bd nodes devices) := by
  have hmf : ∀ (fn : Fn) (first cap : Array Value) (w : World), (Instr.makeFunc fn first cap).run Tryd.prog w = .ok (.func fn first cap) w := fun _ _ _ _ => rfl
  have ST := Lib.hid (nb_start (devices : Int) 30 3 26 26 g)
  have HR := Lib.hid hr
  have hbx := g.lt
  have hmi := g.below.size
  obtain ⟨i0, hi, hz0, hz1, hz2⟩ := info_parts infoNd
  clear g hr
  go_enter Tryd.func12, Tryd.ntmps12
  go_wp2_with fail
  all_goals (try (exfalso; omega))
  obtain ⟨W4, hW4⟩ : ∃ W4, (((w.alloc (.cells #[.pointer (some ⟨bd, 0, none⟩)] 30)).alloc (.cells #[.int .i64 devices] 3)).alloc (.cells #[.slice none 0 0, .slice none 0 0] 26)).alloc (.cells #[.slice none 0 0, .slice none 0 0] 26) = W4 := ⟨_, rfl⟩
  rw [hW4] at ST ⊢
  obtain ⟨x, hx⟩ : ∃ x, w.heap.size = x := ⟨_, rfl⟩
  rw [hx] at ST hbx hmi ⊢
  clear hW4
  refine (ST.out.game.next HR.out _ ?nb).mono ?_
  case nb => omega
  rintro e W5 ⟨r, rfl, r0, r1, g5, gb5⟩
  have N5 := Lib.hid (ST.out.kept gb5 g5)
  obtain ⟨K, hK⟩ : ∃ K : Nat, (2 : Int) + r = K := ⟨(2 + r).toNat, by omega⟩
  have hK2 : 2 ≤ K ∧ K ≤ nodes := by omega
  clear r0 r1 g5 gb5 ST
  go_wp2_with fail
  go_loopw [9] (fun i wr => ∃ (j : Nat) (vn : Value) (ns : List Nd), j ≤ K ∧ ns.length = j ∧ i = .int .i64 j ∧ Hid (NB w0 wr a len cap bd x devices vn (.slice none 0 0) ns []) ∧ Hid (GoodN ns)) (fun i _ => K - (intOf i).toNat)
  case atStart => exact ⟨0, _, [], Nat.zero_le _, rfl, rfl, N5, GoodN.nil⟩
  case round => as_aux_lemma =>
    obtain ⟨j, vn, ns, hjK, hlen, rfl, nbh, gn⟩ := hrel
    by_cases hj : j < K
    · have HL := Lib.hid hlen
      have hx4 := nbh.out.size
      go_wp2_with fail
      refine (name_is 78 j wr (by omega)).mono ?_; rintro e w' ⟨rfl, rfl⟩
      have S0 : Hid (NS w0 wr ((wr.alloc (.cells #[.int .u8 (48 + (j : Int) / 10), .int .u8 (48 + (j : Int) % 10)] 5)).alloc (.cells #[.string (nmB 78 j), .int .i64 0, .int .i64 0] 67)) a len cap bd (wr.heap.size + 1) (nmB 78 j) 0 0) := by
        refine ⟨grown_alloc (grown_alloc (gb_refl _ _) _) _, (nbh.out.game.alloc _).alloc _, ⟨_, by have := heap_alloc_new (wr.alloc (.cells #[.int .u8 (48 + (j : Int) / 10), .int .u8 (48 + (j : Int) % 10)] 5)) (.cells #[.string (nmB 78 j), .int .i64 0, .int .i64 0] 67); simpa using this⟩, by omega, by omega, by omega⟩
      have e1 := (nbh.out.kept S0.out.gb S0.out.gm).ptr0
      go_wp2_with fail
      obtain ⟨W1, hW1⟩ : ∃ W1, (wr.alloc (.cells #[.int .u8 (48 + (j : Int) / 10), .int .u8 (48 + (j : Int) % 10)] 5)).alloc (.cells #[.string (nmB 78 j), .int .i64 0, .int .i64 0] 67) = W1 := ⟨_, rfl⟩
      obtain ⟨b, hb⟩ : ∃ b, wr.heap.size + 1 = b := ⟨_, rfl⟩
      rw [hW1, hb] at S0
      rw [hW1] at e1 ⊢
      rw [hb]
      clear hW1 hb
      refine (one_is S0.out.gm HR.out 2 (by decide)).mono ?_; rintro e W2 ⟨r, rfl, gm, gb⟩
      have S1 := Lib.hid (S0.out.draw gb gm)
      clear gb gm e1
      cases r
      · have e1 := (nbh.out.kept S1.out.gb S1.out.gm).ptr0
        go_wp2_with fail
        refine (one_is S1.out.gm HR.out 8 (by decide)).mono ?_; rintro e W3 ⟨r, rfl, gm, gb⟩
        have S2 := Lib.hid (S1.out.draw gb gm)
        clear gb gm e1
        cases r
        · have NX := Lib.hid (nbh.out.kept S2.out.gb S2.out.gm)
          obtain ⟨g1, g2, g3, -, -⟩ := S2.out.cells
          obtain ⟨q1, q2, q3, q4⟩ := NX.out.net0
          have hxs : x + 4 ≤ W3.heap.size := NX.out.size
          have OW : Hid ((W3.alloc (.cells #[.string (nmB 78 j), .int .i64 0, .int .i64 0] 67)).ownsRow (x + 4) 67 3 vn ns.length (flat encNd ns)) := AggsAt.alloc NX.out.rn _
          have NXB := Lib.hid (NX.out.kept (grown_alloc (gb_refl _ _) (.cells #[.string (nmB 78 j), .int .i64 0, .int .i64 0] 67)) (NX.out.game.alloc _))
          go_wp2_with (at_builtin; go_must (refine wpList_append_own _ rfl (.tmp 45) (.tmp 47) 23 rfl (x + 4) 67 i0 _ 3 32 Tryd.underlying23 hi hz0 hz1 hz2 rfl (by decide) vn ns.length (flat encNd ns) rfl OW.out _ 1 1 (encNd ⟨nmB 78 j, 0, 0⟩) rfl rfl ?qc1 ?qc2 ?qc3 ?qc4 ?qc5 ?_))
          case qc1 => exact cell_one (enc := encNd) (_k := 3) W3 _ _ ⟨nmB 78 j, 0, 0⟩ rfl
          case qc2 => exact encNd_one _
          case qc3 => unfold maxLen; omega
          case qc4 => omega
          case qc5 => simp; omega
          intro v' W9 hown' hgrow hnil'
          obtain ⟨a9, c9, e9⟩ : ∃ a9 c9, v' = .slice a9 (j + 1) c9 := by
            obtain ⟨a9, c9, e, -⟩ := AggsAt.length (AggsAt.push (xs := ns) (x := ⟨nmB 78 j, 0, 0⟩) (enc := encNd) (by rw [HL.out]; exact hown')) encNd_len
            exact ⟨a9, c9, by rw [e, List.length_append, HL.out]; rfl⟩
          subst e9
          have PN := Lib.hid (NXB.out.pushN (w' := W9) (x' := ⟨nmB 78 j, 0, 0⟩) (by rw [HL.out]; exact hown') hgrow)
          have hf9 : W9.frozen? ⟨x + 1 + 1 + 1, 0, none⟩ = false ∧ (∃ u, W9.cell? ⟨x + 1 + 1 + 1, 0, none⟩ = some u) := by
            obtain ⟨Tn, hnet⟩ := NXB.out.net
            have hne : some (x + 1 + 1 + 1) ≠ vn.ownBlock := fun e => by have := (World.ownsRow.lt OW.out _ e.symm).1; omega
            have hh : W9.heap[x + 1 + 1 + 1]? = some (.cells #[vn, .slice none 0 0] Tn (0, 0)) := by rw [hgrow.block _ (by simp; omega) hne]; exact hnet
            exact ⟨(cell_at hh 0).2, _, (cell_at hh 0).1⟩
          obtain ⟨hf9, u9, hu9⟩ := hf9
          clear hown' hgrow hnil'
          go_wp2
          go_roundw
          case rel => exact ⟨j + 1, _, ns ++ [⟨nmB 78 j, 0, 0⟩], by omega, by rw [List.length_append, HL.out]; rfl, by go_num, PN, gn.out.snoc (by show nmB 78 j = nmB 78 ns.length; rw [HL.out]) (by dsimp only; omega) (by dsimp only; omega)⟩
          case measure => simp [intOf]; omega
        · have e1 := (nbh.out.kept S2.out.gb S2.out.gm).ptr0
          go_wp2_with fail
          refine (S2.out.gm.next HR.out 2 (by decide)).mono ?_; rintro e W4 ⟨v, rfl, v0, v1, gm, gb⟩
          have S3a := Lib.hid (S2.out.draw gb gm)
          have v2 : v < 2 := by omega
          obtain ⟨-, f1, f2, f3, f4⟩ := S3a.out.cells
          obtain ⟨W5, hW5⟩ : ∃ W, W4.setCell ⟨b, 2, none⟩ (.int .i64 (1 + v)) = W := ⟨_, rfl⟩
          have S3 := Lib.hid (S3a.out.set2 (1 + v))
          rw [hW5] at S3
          clear gb gm e1 v1
          have NX := Lib.hid (nbh.out.kept S3.out.gb S3.out.gm)
          obtain ⟨g1, g2, g3, -, -⟩ := S3.out.cells
          obtain ⟨q1, q2, q3, q4⟩ := NX.out.net0
          have hxs : x + 4 ≤ W5.heap.size := NX.out.size
          have OW : Hid ((W5.alloc (.cells #[.string (nmB 78 j), .int .i64 0, .int .i64 (1 + v)] 67)).ownsRow (x + 4) 67 3 vn ns.length (flat encNd ns)) := AggsAt.alloc NX.out.rn _
          have NXB := Lib.hid (NX.out.kept (grown_alloc (gb_refl _ _) (.cells #[.string (nmB 78 j), .int .i64 0, .int .i64 (1 + v)] 67)) (NX.out.game.alloc _))
          go_wp2_with (at_builtin; go_must (refine wpList_append_own _ rfl (.tmp 45) (.tmp 47) 23 rfl (x + 4) 67 i0 _ 3 32 Tryd.underlying23 hi hz0 hz1 hz2 rfl (by decide) vn ns.length (flat encNd ns) rfl OW.out _ 1 1 (encNd ⟨nmB 78 j, 0, (1 + v)⟩) rfl rfl ?qc1 ?qc2 ?qc3 ?qc4 ?qc5 ?_))
          case qc1 => exact cell_one (enc := encNd) (_k := 3) W5 _ _ ⟨nmB 78 j, 0, (1 + v)⟩ rfl
          case qc2 => exact encNd_one _
          case qc3 => unfold maxLen; omega
          case qc4 => omega
          case qc5 => simp; omega
          intro v' W9 hown' hgrow hnil'
          obtain ⟨a9, c9, e9⟩ : ∃ a9 c9, v' = .slice a9 (j + 1) c9 := by
            obtain ⟨a9, c9, e, -⟩ := AggsAt.length (AggsAt.push (xs := ns) (x := ⟨nmB 78 j, 0, (1 + v)⟩) (enc := encNd) (by rw [HL.out]; exact hown')) encNd_len
            exact ⟨a9, c9, by rw [e, List.length_append, HL.out]; rfl⟩
          subst e9
          have PN := Lib.hid (NXB.out.pushN (w' := W9) (x' := ⟨nmB 78 j, 0, (1 + v)⟩) (by rw [HL.out]; exact hown') hgrow)
          have hf9 : W9.frozen? ⟨x + 1 + 1 + 1, 0, none⟩ = false ∧ (∃ u, W9.cell? ⟨x + 1 + 1 + 1, 0, none⟩ = some u) := by
            obtain ⟨Tn, hnet⟩ := NXB.out.net
            have hne : some (x + 1 + 1 + 1) ≠ vn.ownBlock := fun e => by have := (World.ownsRow.lt OW.out _ e.symm).1; omega
            have hh : W9.heap[x + 1 + 1 + 1]? = some (.cells #[vn, .slice none 0 0] Tn (0, 0)) := by rw [hgrow.block _ (by simp; omega) hne]; exact hnet
            exact ⟨(cell_at hh 0).2, _, (cell_at hh 0).1⟩
          obtain ⟨hf9, u9, hu9⟩ := hf9
          clear hown' hgrow hnil'
          go_wp2
          go_roundw
          case rel => exact ⟨j + 1, _, ns ++ [⟨nmB 78 j, 0, (1 + v)⟩], by omega, by rw [List.length_append, HL.out]; rfl, by go_num, PN, gn.out.snoc (by show nmB 78 j = nmB 78 ns.length; rw [HL.out]) (by dsimp only; omega) (by dsimp only; omega)⟩
          case measure => simp [intOf]; omega
      · have e1 := (nbh.out.kept S1.out.gb S1.out.gm).ptr0
        go_wp2_with fail
        refine (S1.out.gm.next HR.out 50 (by decide)).mono ?_; rintro e W3 ⟨v, rfl, v0, v1, gm, gb⟩
        have S2a := Lib.hid (S1.out.draw gb gm)
        have v2 : v < 50 := by omega
        obtain ⟨-, f1, f2, f3, f4⟩ := S2a.out.cells
        obtain ⟨W4, hW4⟩ : ∃ W, W3.setCell ⟨b, 1, none⟩ (.int .i64 (1 + v)) = W := ⟨_, rfl⟩
        have S2 := Lib.hid (S2a.out.set1 (1 + v))
        rw [hW4] at S2
        clear gb gm e1 v1
        have e1 := (nbh.out.kept S2.out.gb S2.out.gm).ptr0
        go_wp2_with fail
        refine (one_is S2.out.gm HR.out 8 (by decide)).mono ?_; rintro e W5 ⟨r, rfl, gm, gb⟩
        have S3 := Lib.hid (S2.out.draw gb gm)
        clear gb gm e1
        cases r
        · have NX := Lib.hid (nbh.out.kept S3.out.gb S3.out.gm)
          obtain ⟨g1, g2, g3, -, -⟩ := S3.out.cells
          obtain ⟨q1, q2, q3, q4⟩ := NX.out.net0
          have hxs : x + 4 ≤ W5.heap.size := NX.out.size
          have OW : Hid ((W5.alloc (.cells #[.string (nmB 78 j), .int .i64 (1 + v), .int .i64 0] 67)).ownsRow (x + 4) 67 3 vn ns.length (flat encNd ns)) := AggsAt.alloc NX.out.rn _
          have NXB := Lib.hid (NX.out.kept (grown_alloc (gb_refl _ _) (.cells #[.string (nmB 78 j), .int .i64 (1 + v), .int .i64 0] 67)) (NX.out.game.alloc _))
          go_wp2_with (at_builtin; go_must (refine wpList_append_own _ rfl (.tmp 45) (.tmp 47) 23 rfl (x + 4) 67 i0 _ 3 32 Tryd.underlying23 hi hz0 hz1 hz2 rfl (by decide) vn ns.length (flat encNd ns) rfl OW.out _ 1 1 (encNd ⟨nmB 78 j, (1 + v), 0⟩) rfl rfl ?qc1 ?qc2 ?qc3 ?qc4 ?qc5 ?_))
          case qc1 => exact cell_one (enc := encNd) (_k := 3) W5 _ _ ⟨nmB 78 j, (1 + v), 0⟩ rfl
          case qc2 => exact encNd_one _
          case qc3 => unfold maxLen; omega
          case qc4 => omega
          case qc5 => simp; omega
          intro v' W9 hown' hgrow hnil'
          obtain ⟨a9, c9, e9⟩ : ∃ a9 c9, v' = .slice a9 (j + 1) c9 := by
            obtain ⟨a9, c9, e, -⟩ := AggsAt.length (AggsAt.push (xs := ns) (x := ⟨nmB 78 j, (1 + v), 0⟩) (enc := encNd) (by rw [HL.out]; exact hown')) encNd_len
            exact ⟨a9, c9, by rw [e, List.length_append, HL.out]; rfl⟩
          subst e9
          have PN := Lib.hid (NXB.out.pushN (w' := W9) (x' := ⟨nmB 78 j, (1 + v), 0⟩) (by rw [HL.out]; exact hown') hgrow)
          have hf9 : W9.frozen? ⟨x + 1 + 1 + 1, 0, none⟩ = false ∧ (∃ u, W9.cell? ⟨x + 1 + 1 + 1, 0, none⟩ = some u) := by
            obtain ⟨Tn, hnet⟩ := NXB.out.net
            have hne : some (x + 1 + 1 + 1) ≠ vn.ownBlock := fun e => by have := (World.ownsRow.lt OW.out _ e.symm).1; omega
            have hh : W9.heap[x + 1 + 1 + 1]? = some (.cells #[vn, .slice none 0 0] Tn (0, 0)) := by rw [hgrow.block _ (by simp; omega) hne]; exact hnet
            exact ⟨(cell_at hh 0).2, _, (cell_at hh 0).1⟩
          obtain ⟨hf9, u9, hu9⟩ := hf9
          clear hown' hgrow hnil'
          go_wp2
          go_roundw
          case rel => exact ⟨j + 1, _, ns ++ [⟨nmB 78 j, (1 + v), 0⟩], by omega, by rw [List.length_append, HL.out]; rfl, by go_num, PN, gn.out.snoc (by show nmB 78 j = nmB 78 ns.length; rw [HL.out]) (by dsimp only; omega) (by dsimp only; omega)⟩
          case measure => simp [intOf]; omega
        · have e1 := (nbh.out.kept S3.out.gb S3.out.gm).ptr0
          go_wp2_with fail
          refine (S3.out.gm.next HR.out 2 (by decide)).mono ?_; rintro e W6 ⟨u, rfl, u0, u1, gm, gb⟩
          have S4a := Lib.hid (S3.out.draw gb gm)
          have u2 : u < 2 := by omega
          obtain ⟨-, f1, f2, f3, f4⟩ := S4a.out.cells
          obtain ⟨W7, hW7⟩ : ∃ W, W6.setCell ⟨b, 2, none⟩ (.int .i64 (1 + u)) = W := ⟨_, rfl⟩
          have S4 := Lib.hid (S4a.out.set2 (1 + u))
          rw [hW7] at S4
          clear gb gm e1 u1
          have NX := Lib.hid (nbh.out.kept S4.out.gb S4.out.gm)
          obtain ⟨g1, g2, g3, -, -⟩ := S4.out.cells
          obtain ⟨q1, q2, q3, q4⟩ := NX.out.net0
          have hxs : x + 4 ≤ W7.heap.size := NX.out.size
          have OW : Hid ((W7.alloc (.cells #[.string (nmB 78 j), .int .i64 (1 + v), .int .i64 (1 + u)] 67)).ownsRow (x + 4) 67 3 vn ns.length (flat encNd ns)) := AggsAt.alloc NX.out.rn _
          have NXB := Lib.hid (NX.out.kept (grown_alloc (gb_refl _ _) (.cells #[.string (nmB 78 j), .int .i64 (1 + v), .int .i64 (1 + u)] 67)) (NX.out.game.alloc _))
          go_wp2_with (at_builtin; go_must (refine wpList_append_own _ rfl (.tmp 45) (.tmp 47) 23 rfl (x + 4) 67 i0 _ 3 32 Tryd.underlying23 hi hz0 hz1 hz2 rfl (by decide) vn ns.length (flat encNd ns) rfl OW.out _ 1 1 (encNd ⟨nmB 78 j, (1 + v), (1 + u)⟩) rfl rfl ?qc1 ?qc2 ?qc3 ?qc4 ?qc5 ?_))
          case qc1 => exact cell_one (enc := encNd) (_k := 3) W7 _ _ ⟨nmB 78 j, (1 + v), (1 + u)⟩ rfl
          case qc2 => exact encNd_one _
          case qc3 => unfold maxLen; omega
          case qc4 => omega
          case qc5 => simp; omega
          intro v' W9 hown' hgrow hnil'
          obtain ⟨a9, c9, e9⟩ : ∃ a9 c9, v' = .slice a9 (j + 1) c9 := by
            obtain ⟨a9, c9, e, -⟩ := AggsAt.length (AggsAt.push (xs := ns) (x := ⟨nmB 78 j, (1 + v), (1 + u)⟩) (enc := encNd) (by rw [HL.out]; exact hown')) encNd_len
            exact ⟨a9, c9, by rw [e, List.length_append, HL.out]; rfl⟩
          subst e9
          have PN := Lib.hid (NXB.out.pushN (w' := W9) (x' := ⟨nmB 78 j, (1 + v), (1 + u)⟩) (by rw [HL.out]; exact hown') hgrow)
          have hf9 : W9.frozen? ⟨x + 1 + 1 + 1, 0, none⟩ = false ∧ (∃ u, W9.cell? ⟨x + 1 + 1 + 1, 0, none⟩ = some u) := by
            obtain ⟨Tn, hnet⟩ := NXB.out.net
            have hne : some (x + 1 + 1 + 1) ≠ vn.ownBlock := fun e => by have := (World.ownsRow.lt OW.out _ e.symm).1; omega
            have hh : W9.heap[x + 1 + 1 + 1]? = some (.cells #[vn, .slice none 0 0] Tn (0, 0)) := by rw [hgrow.block _ (by simp; omega) hne]; exact hnet
            exact ⟨(cell_at hh 0).2, _, (cell_at hh 0).1⟩
          obtain ⟨hf9, u9, hu9⟩ := hf9
          clear hown' hgrow hnil'
          go_wp2
          go_roundw
          case rel => exact ⟨j + 1, _, ns ++ [⟨nmB 78 j, (1 + v), (1 + u)⟩], by omega, by rw [List.length_append, HL.out]; rfl, by go_num, PN, gn.out.snoc (by show nmB 78 j = nmB 78 ns.length; rw [HL.out]) (by dsimp only; omega) (by dsimp only; omega)⟩
          case measure => simp [intOf]; omega
    · obtain rfl : K = j := by omega
      have HL := Lib.hid hlen
      have hnn : ns.length ≤ nodes := by omega
      clear hlen
      go_wp2_with fail
      refine (add_is w0 wr a len cap bd x 5 zs devices vn _ ns [] 0 (-1) nbh.out HR.out d20 (Nat.zero_le _) (GoodD.nil _) (by decide) (by decide) (its_end ns.length 0 5 (by decide) (by rw [HL.out]; omega))).mono ?_; rintro e WA ⟨rfl, vd, ds, nb1, gd1, -, l2, l3⟩
      have l1 : 1 ≤ ds.length := by have := l3 (by simp; omega); rw [this]; simp
      have l2 : ds.length ≤ devices := by omega
      have NB1 := Lib.hid nb1
      have GD1 := Lib.hid gd1
      clear l3 nb1 gd1 nbh
      go_wp2_with fail
      go_loopw [12] (fun i wr => ∃ (t : Nat) (vd : Value) (ds : List Dv), 1 ≤ t ∧ t ≤ K ∧ i = .int .i64 t ∧ Hid (NB w0 wr a len cap bd x devices vn vd ns ds) ∧ Hid (GoodD ns.length ds) ∧ 1 ≤ ds.length ∧ ds.length ≤ devices) (fun i _ => K - (intOf i).toNat)
      case atStart => exact ⟨1, vd, ds, by omega, by omega, rfl, NB1, GD1, l1, l2⟩
      case round => as_aux_lemma =>
        clear NB1 GD1 l1 l2
        obtain ⟨t, vd, ds, t1, tK, rfl, nbh, gd, l1, l2⟩ := hrel
        by_cases ht : t < K
        · have e1 := nbh.out.ptr0
          go_wp2_with fail
          refine (one_is nbh.out.game HR.out 3 (by decide)).mono ?_; rintro e W1 ⟨r, rfl, gm, gb⟩
          have N1 := Lib.hid (nbh.out.kept gb gm)
          clear e1 gb gm
          have e1 := N1.out.ptr0
          cases r
          · obtain ⟨p, hp⟩ : ∃ p : Nat, (t : Int) - 1 = p := ⟨t - 1, by omega⟩
            go_wp2_with fail
            refine (N1.out.game.next HR.out 3 (by decide)).mono ?_; rintro e WB ⟨u, rfl, u0, u1, gm, gb⟩
            have N9 := Lib.hid (N1.out.kept gb gm)
            obtain ⟨kk, hkk⟩ : ∃ kk : Nat, (1 : Int) + u = kk := ⟨(1 + u).toNat, by omega⟩
            have hk3 : 1 ≤ kk ∧ kk ≤ 3 := by omega
            clear e1 gb gm u0 u1
            have AD := Lib.hid (add_is w0 WB a len cap bd x kk zs devices vn vd ns ds p t N9.out HR.out d20 l2 gd.out hk3.1 (by omega) (its_line ns.length p t kk hk3.1 hk3.2 (by rw [HL.out]; omega) (by rw [HL.out]; omega) (by omega)))
            go_wp2_with fail
            refine AD.out.mono ?_; rintro e WC ⟨rfl, vd9, ds9, nb9, gd9, y1, y2, y3⟩
            have NBZ := Lib.hid nb9
            have GDZ := Lib.hid gd9
            clear nb9 gd9
            go_wp2
            go_roundw
            case rel => exact ⟨t + 1, _, _, by omega, by omega, by go_num, NBZ, GDZ, by omega, by omega⟩
            case measure => simp [intOf]; omega
          · go_wp2_with fail
            refine (N1.out.game.next HR.out t (by omega)).mono ?_; rintro e W2 ⟨v, rfl, v0, v1, gm, gb⟩
            have N2 := Lib.hid (N1.out.kept gb gm)
            obtain ⟨p, hp⟩ : ∃ p : Nat, v = p := ⟨v.toNat, by omega⟩
            have hpt : p < t := by omega
            subst hp
            clear e1 gb gm v0 v1
            have e1 := N2.out.ptr0
            go_wp2_with fail
            refine (N2.out.game.next HR.out 3 (by decide)).mono ?_; rintro e WB ⟨u, rfl, u0, u1, gm, gb⟩
            have N9 := Lib.hid (N2.out.kept gb gm)
            obtain ⟨kk, hkk⟩ : ∃ kk : Nat, (1 : Int) + u = kk := ⟨(1 + u).toNat, by omega⟩
            have hk3 : 1 ≤ kk ∧ kk ≤ 3 := by omega
            clear e1 gb gm u0 u1
            have AD := Lib.hid (add_is w0 WB a len cap bd x kk zs devices vn vd ns ds p t N9.out HR.out d20 l2 gd.out hk3.1 (by omega) (its_line ns.length p t kk hk3.1 hk3.2 (by rw [HL.out]; omega) (by rw [HL.out]; omega) (by omega)))
            go_wp2_with fail
            refine AD.out.mono ?_; rintro e WC ⟨rfl, vd9, ds9, nb9, gd9, y1, y2, y3⟩
            have NBZ := Lib.hid nb9
            have GDZ := Lib.hid gd9
            clear nb9 gd9
            go_wp2
            go_roundw
            case rel => exact ⟨t + 1, _, _, by omega, by omega, by go_num, NBZ, GDZ, by omega, by omega⟩
            case measure => simp [intOf]; omega
        · obtain rfl : K = t := by omega
          have e1 := nbh.out.ptr0
          go_wp2_with fail
          refine (nbh.out.game.next HR.out 4 (by decide)).mono ?_; rintro e W1 ⟨v, rfl, v0, v1, gm, gb⟩
          have N1 := Lib.hid (nbh.out.kept gb gm)
          obtain ⟨p, hp⟩ : ∃ p : Nat, v = p := ⟨v.toNat, by omega⟩
          subst hp
          have hp3 : p ≤ 3 := by omega
          clear e1 gb gm v0 v1 nbh
          go_wp2_with fail
          go_loopw [14] (fun i wr => ∃ (t : Nat) (vd : Value) (ds : List Dv), t ≤ 3 ∧ i = .int .i64 t ∧ Hid (NB w0 wr a len cap bd x devices vn vd ns ds) ∧ Hid (GoodD ns.length ds) ∧ 1 ≤ ds.length ∧ ds.length ≤ devices) (fun i _ => (intOf i).toNat)
          case atStart => exact ⟨p, vd, ds, hp3, rfl, N1, gd, l1, l2⟩
          case round => as_aux_lemma =>
            clear N1 gd l1 l2
            obtain ⟨t, vd, ds, t3, rfl, nbh, gd, l1, l2⟩ := hrel
            by_cases ht : 0 < t
            · have e1 := nbh.out.ptr0
              go_wp2_with fail
              refine (nbh.out.game.next HR.out 4 (by decide)).mono ?_; rintro e W1 ⟨v, rfl, v0, v1, gm, gb⟩
              have N1 := Lib.hid (nbh.out.kept gb gm)
              clear e1 gb gm
              have e1 := N1.out.ptr0
              rcases (show v = 0 ∨ v = 1 ∨ v = 2 ∨ v = 3 by omega) with rfl | rfl | rfl | rfl
              · clear v0 v1
                go_wp2_with fail
                refine (N1.out.game.next HR.out K (by omega)).mono ?_; rintro e W2 ⟨v, rfl, v0, v1, gm, gb⟩
                have N2 := Lib.hid (N1.out.kept gb gm)
                obtain ⟨A, hA⟩ : ∃ p : Nat, v = p := ⟨v.toNat, by omega⟩
                have hAK : A < K := by omega
                subst hA
                clear e1 gb gm v0 v1
                have e1 := N2.out.ptr0
                go_wp2_with fail
                refine (N2.out.game.next HR.out _ ?nx).mono ?_
                case nx => omega
                rintro e W3 ⟨v, rfl, v0, v1, gm, gb⟩
                have N3 := Lib.hid (N2.out.kept gb gm)
                obtain ⟨B, hB⟩ : ∃ p : Nat, (A : Int) + 1 + v = (A : Int) + p := ⟨(1 + v).toNat, by omega⟩
                have hB1 : 1 ≤ B ∧ B < K := by omega
                obtain ⟨m1, m2, m3⟩ := rem_ne A B K hAK hB1.1 hB1.2
                obtain ⟨C, hC⟩ : ∃ C, (A + B) % K = C := ⟨_, rfl⟩
                rw [hC] at m1 m2 m3
                have m4 : ((A : Int) + 1 + v).tmod K = C := by rw [hB]; exact m1
                clear e1 gb gm hB m1 hC
                have e1 := N3.out.ptr0
                go_wp2_with fail
                refine (N3.out.game.next HR.out 3 (by decide)).mono ?_; rintro e WB ⟨u, rfl, u0, u1, gm, gb⟩
                have N9 := Lib.hid (N3.out.kept gb gm)
                obtain ⟨kk, hkk⟩ : ∃ kk : Nat, (1 : Int) + u = kk := ⟨(1 + u).toNat, by omega⟩
                have hk3 : 1 ≤ kk ∧ kk ≤ 3 := by omega
                clear e1 gb gm u0 u1
                have AD := Lib.hid (add_is w0 WB a len cap bd x kk zs devices vn vd ns ds A C N9.out HR.out d20 l2 gd.out hk3.1 (by omega) (its_line ns.length A C kk hk3.1 hk3.2 (by rw [HL.out]; omega) (by rw [HL.out]; omega) (by omega)))
                go_wp2_with fail
                refine AD.out.mono ?_; rintro e WC ⟨rfl, vd9, ds9, nb9, gd9, y1, y2, y3⟩
                have NBZ := Lib.hid nb9
                have GDZ := Lib.hid gd9
                clear nb9 gd9
                go_wp2
                go_roundw
                case rel => exact ⟨t - 1, _, _, by omega, by go_num, NBZ, GDZ, by omega, by omega⟩
                case measure => simp [intOf]; omega
              · clear v0 v1
                go_wp2_with fail
                refine (N1.out.game.next HR.out K (by omega)).mono ?_; rintro e W2 ⟨v, rfl, v0, v1, gm, gb⟩
                have N2 := Lib.hid (N1.out.kept gb gm)
                obtain ⟨A, hA⟩ : ∃ p : Nat, v = p := ⟨v.toNat, by omega⟩
                have hAK : A < K := by omega
                subst hA
                clear e1 gb gm v0 v1
                have AD := Lib.hid (add_is w0 W2 a len cap bd x 5 zs devices vn vd ns ds A (-1) N2.out HR.out d20 l2 gd.out (by decide) (by decide) (its_end ns.length A 5 (by decide) (by rw [HL.out]; omega)))
                go_wp2_with fail
                refine AD.out.mono ?_; rintro e WC ⟨rfl, vd9, ds9, nb9, gd9, y1, y2, y3⟩
                have NBZ := Lib.hid nb9
                have GDZ := Lib.hid gd9
                clear nb9 gd9
                go_wp2
                go_roundw
                case rel => exact ⟨t - 1, _, _, by omega, by go_num, NBZ, GDZ, by omega, by omega⟩
                case measure => simp [intOf]; omega
              · clear v0 v1
                go_wp2_with fail
                refine (N1.out.game.next HR.out K (by omega)).mono ?_; rintro e W2 ⟨v, rfl, v0, v1, gm, gb⟩
                have N2 := Lib.hid (N1.out.kept gb gm)
                obtain ⟨A, hA⟩ : ∃ p : Nat, v = p := ⟨v.toNat, by omega⟩
                have hAK : A < K := by omega
                subst hA
                clear e1 gb gm v0 v1
                have AD := Lib.hid (add_is w0 W2 a len cap bd x 6 zs devices vn vd ns ds A (-1) N2.out HR.out d20 l2 gd.out (by decide) (by decide) (its_end ns.length A 6 (by decide) (by rw [HL.out]; omega)))
                go_wp2_with fail
                refine AD.out.mono ?_; rintro e WC ⟨rfl, vd9, ds9, nb9, gd9, y1, y2, y3⟩
                have NBZ := Lib.hid nb9
                have GDZ := Lib.hid gd9
                clear nb9 gd9
                go_wp2
                go_roundw
                case rel => exact ⟨t - 1, _, _, by omega, by go_num, NBZ, GDZ, by omega, by omega⟩
                case measure => simp [intOf]; omega
              · clear v0 v1 e1
                go_wp2
                go_roundw
                case rel => exact ⟨t - 1, vd, ds, by omega, by go_num, N1, gd, l1, l2⟩
                case measure => simp [intOf]; omega
            · obtain rfl : t = 0 := by omega
              have e1 := nbh.out.ptr0
              go_wp2_with fail
              refine (nbh.out.game.next HR.out 3 (by decide)).mono ?_; rintro e W1 ⟨v, rfl, v0, v1, gm, gb⟩
              have N1 := Lib.hid (nbh.out.kept gb gm)
              obtain ⟨p, hp⟩ : ∃ p : Nat, v = p := ⟨v.toNat, by omega⟩
              subst hp
              have hp3 : p < 3 := by omega
              clear e1 gb gm v0 v1 nbh
              go_wp2_with fail
              go_loopw [17] (fun i wr => ∃ (t : Nat) (vd : Value) (ds : List Dv), t ≤ 3 ∧ i = .int .i64 t ∧ Hid (NB w0 wr a len cap bd x devices vn vd ns ds) ∧ Hid (GoodD ns.length ds) ∧ 1 ≤ ds.length ∧ ds.length ≤ devices) (fun i _ => (intOf i).toNat)
              case atStart => exact ⟨1 + p, vd, ds, by omega, by go_num, N1, gd, l1, l2⟩
              case round => as_aux_lemma =>
                clear N1 gd l1 l2
                obtain ⟨t, vd, ds, t3, rfl, nbh, gd, l1, l2⟩ := hrel
                by_cases ht : 0 < t
                · have N1 := nbh
                  have v0 : True := trivial
                  have v1 : True := trivial
                  have e1 := N1.out.ptr0
                  clear v0 v1
                  go_wp2_with fail
                  refine (N1.out.game.next HR.out K (by omega)).mono ?_; rintro e W2 ⟨v, rfl, v0, v1, gm, gb⟩
                  have N2 := Lib.hid (N1.out.kept gb gm)
                  obtain ⟨A, hA⟩ : ∃ p : Nat, v = p := ⟨v.toNat, by omega⟩
                  have hAK : A < K := by omega
                  subst hA
                  clear e1 gb gm v0 v1
                  have AD := Lib.hid (add_is w0 W2 a len cap bd x 4 zs devices vn vd ns ds A (-1) N2.out HR.out d20 l2 gd.out (by decide) (by decide) (its_end ns.length A 4 (by decide) (by rw [HL.out]; omega)))
                  go_wp2_with fail
                  refine AD.out.mono ?_; rintro e WC ⟨rfl, vd9, ds9, nb9, gd9, y1, y2, y3⟩
                  have NBZ := Lib.hid nb9
                  have GDZ := Lib.hid gd9
                  clear nb9 gd9
                  go_wp2
                  go_roundw
                  case rel => exact ⟨t - 1, _, _, by omega, by go_num, NBZ, GDZ, by omega, by omega⟩
                  case measure => simp [intOf]; omega
                · obtain rfl : t = 0 := by omega
                  have hx4 := nbh.out.size
                  obtain ⟨an, cn, hvn, -⟩ := nbh.out.rn.length encNd_len
                  obtain ⟨ad, cd, hvd, -⟩ := nbh.out.rd.length encDv_len
                  subst hvn
                  subst hvd
                  obtain ⟨q1, q2, -, -⟩ := nbh.out.net0
                  obtain ⟨T3, p3, q3, hres⟩ := nbh.out.res
                  obtain ⟨s0, s1⟩ := cell_at hres 0
                  obtain ⟨s2, s3⟩ := cell_at hres 1
                  have s0 : wr.cell? ⟨x + 1 + 1, 0, none⟩ = some p3 := s0
                  have s2 : wr.cell? ⟨x + 1 + 1, 1, none⟩ = some q3 := s2
                  have e5 := set_at (i := 0) (Value.slice an ns.length cn) hres
                  have e6 := Lib.hid (set_at (i := 1) (Value.slice ad ds.length cd) e5)
                  have ga := gb_set (b := x + 1 + 1) (i := 0) (Value.slice an ns.length cn) (gb_refl wr (some (x + 1 + 1)))
                  have GG := Lib.hid (gb_set (b := x + 1 + 1) (i := 1) (Value.slice ad ds.length cd) ga)
                  clear hres e5 ga
                  go_wp2_with fail
                  have c0 : ((wr.setCell ⟨x + 1 + 1, 0, none⟩ (.slice an ns.length cn)).setCell ⟨x + 1 + 1, 1, none⟩ (.slice ad ds.length cd)).cell? ⟨x + 1 + 1, 0, none⟩ = some (.slice an ns.length cn) := (cell_at e6.out 0).1
                  have c1 : ((wr.setCell ⟨x + 1 + 1, 0, none⟩ (.slice an ns.length cn)).setCell ⟨x + 1 + 1, 1, none⟩ (.slice ad ds.length cd)).cell? ⟨x + 1 + 1, 1, none⟩ = some (.slice ad ds.length cd) := (cell_at e6.out 1).1
                  refine bodyPost_ret (v := .agg #[.slice an ns.length cn, .slice ad ds.length cd]) (by simp [results, Tryd.results12, go_sem, c0, c1]) rfl ?_
                  refine ⟨_, _, ns, ds, rfl, nbh.out.game.grown GG.out (by simp; omega) (fun k hk => by cases hk; omega), (nbh.out.rn.grown GG.out (fun k hk => by cases hk; omega)).mono (by omega), (nbh.out.rd.grown GG.out (fun k hk => by cases hk; omega)).mono (by omega), gn.out, gd.out, by rw [HL.out]; exact hK2.1, hnn, l1, l2⟩
end Go.Proofs.YtoeojhabhnoojaaDoor.net
