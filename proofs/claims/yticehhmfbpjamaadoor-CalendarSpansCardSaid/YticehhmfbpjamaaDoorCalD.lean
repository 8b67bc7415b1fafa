/- The walk of the reference's Union at spans that are valid: it leaves the union. -/
import Derived.Test.YticehhmfbpjamaaDoorCalV
import Derived.Test.YticehhmfbpjamaaDoorCalO
import Derived.Deep.RegionHeld3
import Derived.Deep.AppendLies
import Derived.Laws.AppendOwnNone
namespace Go.Proofs.YticehhmfbpjamaaDoor.cal
open Go.RowKit lex uni aggs deck kit

theorem step_append_own {P : Program} {w : World} {ops : Array Oper} {o : Oper} {a : Act} {K : Act → World → Prop} {Q : Exit → Act → World → Prop} {E : Prop} (hgd : o.guard = none) (s x : Operand) (t : TypeId)
    (ho : o.op = .call { callee := .builtin .append, args := #[s, x], argTypes := #[t, t] })
    (base : Nat) (e : TypeId) (i : TypeInfo) (z : Value) (size bytes : Nat) (ht : P.underlying t = some (.slice e)) (hi : P.info? e = some i) (hz : i.zero = some z)
    (hsize : i.size = size) (hby : i.bytes = bytes) (hzs : z.cells.size = size) (hsz : 0 < size)
    (v : Value) (n : Nat) (xs : List Value) (hs : a.eval s = v) (hown : w.ownsRow base e size v n xs)
    (ad : Addr) (m c : Nat) (news : List Value) (hx : a.eval x = .slice (some ad) m c) (hl : news.length = m * size) (hnews : ∀ j u, news[j]? = some u → w.cell? (ad.add j) = some u) (h1 : ∀ u ∈ news, u.oneCell' = true)
    (h63 : n + m ≤ maxLen) (hbytes : (n + m) * bytes ≤ 140737488355328) (hbase : base ≤ w.heap.size)
    (h : ∀ v' w', w'.ownsRow base e size v' (n + m) (xs ++ news) → w.grownBy w' v.ownBlock → (v' = .slice none 0 0 ↔ v = .slice none 0 0 ∧ m = 0) → K (a.put o.dst v') w') :
    if Region.wanted o (yielded ops a.tmps) = true then Oper.wp P o a w K Q else E := by
  have hw : Region.wanted o (yielded ops a.tmps) = true := by simp [Region.wanted, hgd]
  rw [if_pos hw]
  exact wp_append_own w s x t ho base e i z size bytes ht hi hz hsize hby hzs hsz v n xs hs hown ad m c news hx hl hnews h1 h63 hbytes hbase h

theorem set2_both {w : World} {b t : Nat} {x y : Value} (u v : Value) (h : w.heap[b]? = some (.cells #[x, y] t (0, 0))) : ((w.setCell ⟨b, 0, none⟩ u).setCell ⟨b, 1, none⟩ v).heap[b]? = some (.cells #[u, v] t (0, 0)) := by
  have hlt := lt_of_block h
  have h' : w.heap[b] = .cells #[x, y] t (0, 0) := by simpa [Array.getElem?_eq_getElem hlt] using h
  have e : (w.setCell ⟨b, 0, none⟩ u).heap[b]? = some (.cells #[u, y] t (0, 0)) := by
    show (w.heap.modify b _)[b]? = _
    rw [Array.getElem?_eq_getElem (by simpa using hlt), Array.getElem_modify_self, h']
    rfl
  have hlt2 := lt_of_block e
  have e' : (w.setCell ⟨b, 0, none⟩ u).heap[b] = .cells #[u, y] t (0, 0) := by simpa [Array.getElem?_eq_getElem hlt2] using e
  show ((w.setCell ⟨b, 0, none⟩ u).heap.modify b _)[b]? = _
  rw [Array.getElem?_eq_getElem (by simpa using hlt2), Array.getElem_modify_self, e']
  rfl
theorem keep_alloc {w : World} {X : Nat} {a b : Value} (h : w.cell? ⟨X, 0, none⟩ = some a ∧ w.cell? ⟨X, 1, none⟩ = some b) (o : Obj) : (w.alloc o).cell? ⟨X, 0, none⟩ = some a ∧ (w.alloc o).cell? ⟨X, 1, none⟩ = some b := by
  obtain ⟨h1, h2⟩ := h
  have h3 := World.block_lt_of_cell? w _ h1
  have hb := (Below.refl w.heap.size w).alloc (Nat.le_refl _) o
  exact ⟨by rw [hb.cell (p := ⟨X, 0, none⟩) h3]; exact h1, by rw [hb.cell (p := ⟨X, 1, none⟩) h3]; exact h2⟩
theorem keep_grown {w w' : World} {X : Nat} {a b : Value} {row : Option Nat} (h : w.cell? ⟨X, 0, none⟩ = some a ∧ w.cell? ⟨X, 1, none⟩ = some b) (hg : w.grownBy w' row) (hne : some X ≠ row) : w'.cell? ⟨X, 0, none⟩ = some a ∧ w'.cell? ⟨X, 1, none⟩ = some b :=
  have h3 := World.block_lt_of_cell? w _ h.1
  ⟨by rw [hg.cell_far ⟨X, 0, none⟩ h3 hne]; exact h.1, by rw [hg.cell_far ⟨X, 1, none⟩ h3 hne]; exact h.2⟩
theorem _root_.Go.Proofs.YticehhmfbpjamaaDoor.aggs.CellsAt.drop {w : World} {g : Nat} {R : List Sp} {p : Nat} (h : CellsAt encSp 2 w g 0 R) (hp : p ≤ R.length) : ∀ j u, (flat encSp (R.drop p))[j]? = some u → w.cell? ((⟨g, p * 2, none⟩ : Addr).add j) = some u := fun j u hu => by
  have e : ((⟨g, p * 2, none⟩ : Addr).add j) = ⟨g, 0 + (p * 2 + j), none⟩ := by unfold Addr.add; split <;> simp_all
  rw [e]
  refine h (p * 2 + j) u ?_
  rw [← List.take_append_drop p R, flat_append, List.getElem?_append_right (by rw [flat_length encSp_len, List.length_take, Nat.min_eq_left hp]; omega), flat_length encSp_len, List.length_take, Nat.min_eq_left hp]
  rw [show p * 2 + j - p * 2 = j by omega]; exact hu
theorem step_append_none {P : Program} {w : World} {ops : Array Oper} {o : Oper} {a : Act} {K : Act → World → Prop} {Q : Exit → Act → World → Prop} {E : Prop} (hgd : o.guard = none) (s x : Operand) (t : TypeId)
    (ho : o.op = .call { callee := .builtin .append, args := #[s, x], argTypes := #[t, t] })
    (base : Nat) (e : TypeId) (i : TypeInfo) (size : Nat) (ht : P.underlying t = some (.slice e)) (hi : P.info? e = some i)
    (v : Value) (n : Nat) (xs : List Value) (hs : a.eval s = v) (hown : w.ownsRow base e size v n xs) (hx : a.eval x = .slice none 0 0) (h : K (a.put o.dst v) w) :
    if Region.wanted o (yielded ops a.tmps) = true then Oper.wp P o a w K Q else E := by
  have hw : Region.wanted o (yielded ops a.tmps) = true := by simp [Region.wanted, hgd]
  rw [if_pos hw]
  have hrun := run_append_owned_none (P := P) (w := w) base t o.type e i size ht hi v n xs hown
  unfold Oper.wp
  simp [execOp, ho, resolve, invoke, builtin, hs, hx, hrun, Result.andThen]
  exact h
theorem news_far {w w' : World} {b : Nat} {xs : List Value} {row : Option Nat} (h : ∀ j u, xs[j]? = some u → w.cell? ((⟨b, 0, none⟩ : Addr).add j) = some u) (hb : b < w.heap.size) (hg : w.grownBy w' row) (hne : some b ≠ row) : ∀ j u, xs[j]? = some u → w'.cell? ((⟨b, 0, none⟩ : Addr).add j) = some u := fun j u hu => by
  have e : ((⟨b, 0, none⟩ : Addr).add j) = ⟨b, j, none⟩ := by unfold Addr.add; split <;> simp_all
  have h1 := h j u hu
  rw [e] at h1 ⊢
  rw [hg.cell_far ⟨b, j, none⟩ hb hne]; exact h1
set_option maxRecDepth 100000 in
set_option maxHeartbeats 1000000 in
theorem runion_nil (a : Option Addr) (cap : Nat) (w : World) : Calls Tryd.prog 26 #[.slice a 0 cap] w (UnPost [] w) := by
  go_enter Tryd.func26, Tryd.ntmps26
  go_wp2
  refine wp_loop_rounds 1 ?_; rw [rounds_succ]
  go_wp2
  refine wp_loop_rounds 1 ?_; rw [rounds_succ]
  go_wp2
  go_ret2
  exact ⟨_, [], rfl, IsUnion.self nf_nil, AggsAt.nil _ _ _ _ _, Below.refl _ _⟩

set_option maxRecDepth 100000 in
set_option maxHeartbeats 4000000 in
theorem runion_row (b off n cap : Nat) (xs : List Sp) (w : World) (hn : xs.length = n) (hb : b < w.heap.size) (hp : 0 < n) (hl : n ≤ 65536) (h : CellsAt encSp 2 w b off xs) (hv : ∀ s ∈ xs, spOk s = true) :
    Calls Tryd.prog 26 #[.slice (some ⟨b, off, none⟩) n cap] w (UnPost xs w) := by
  have HN := Lib.hid hn
  have HIN : Hid (SpIn w (some ⟨b, off, none⟩) xs) := .inr ⟨b, off, rfl, hb, h⟩
  have HV := Lib.hid hv
  have HX : Hid (xs ≠ []) := fun e => by rw [e] at hn; simp at hn; omega
  obtain ⟨i0, hi, hz0, hz1, hz2⟩ := info_parts infoSp
  clear hn h hv
  go_enter Tryd.func26, Tryd.ntmps26
  go_wp2
  go_loopw [5] (fun i wr => ∃ k : Nat, k ≤ n ∧ i = .int .i64 k ∧ Below w.heap.size w wr) (fun i _ => n - (intOf i).toNat)
  case atStart => exact ⟨0, Nat.zero_le _, rfl, Below.refl _ _⟩
  case round =>
    obtain ⟨k, hk, rfl, bel⟩ := hrel
    by_cases hlt : k < n
    · obtain ⟨b', off', e1, hb1, hc⟩ := (HIN.out.below bel).cells HX.out
      obtain ⟨rfl, rfl⟩ : b = b' ∧ off = off' := by injection e1 with e1; injection e1 with e2 e3; exact ⟨e2, e3⟩
      have hkx : k < xs.length := by rw [HN.out]; exact hlt
      obtain ⟨c0, c1⟩ := hc k hkx
      have hok := HV.out xs[k] (List.getElem_mem hkx)
      obtain ⟨x1, hx1⟩ : ∃ x, xs[k].1 = x := ⟨_, rfl⟩
      obtain ⟨x2, hx2⟩ : ∃ x, xs[k].2 = x := ⟨_, rfl⟩
      rw [hx1] at c0
      rw [hx2] at c1
      have hok' : spOk (x1, x2) = true := by rw [← hx1, ← hx2]; exact hok
      have C1 := Lib.hid (fun w => rvalid_is x1 x2 true hok' w)
      clear e1 hc hok hok' hx1 hx2
      go_wp2_with fail
      refine (C1.out _).mono ?_; rintro e w5 ⟨rfl, b5⟩
      have BB := Lib.hid (bel.trans (b5.mono bel.size))
      clear b5
      go_wp2
      go_roundw
      case rel => exact ⟨k + 1, by omega, by go_num, BB.out⟩
      case measure => simp [intOf]; omega
    · obtain rfl : k = n := by omega
      have BE := Lib.hid bel
      clear bel hlt hk
      go_wp2
      go_loopw [4, 6] (fun v i wr2 => ∃ (j : Nat) (U : List Sp), j ≤ k ∧ i = .int .i64 j ∧ Below w.heap.size w wr2 ∧ Hid (IsUnion (xs.take j) U) ∧ U.length ≤ j ∧ Hid (AggsAt 43 2 encSp wr2 w.heap.size v U)) (fun _ i _ => k - (intOf i).toNat)
      case atStart => exact ⟨0, [], Nat.zero_le _, rfl, BE.out, IsUnion.self nf_nil, Nat.le_refl _, AggsAt.nil _ _ _ _ _⟩
      case round =>
        obtain ⟨j, U, hj, rfl, bel, hu, hul, own⟩ := hrel
        by_cases hjk : j < k
        · have hjx : j < xs.length := by rw [HN.out]; exact hjk
          obtain ⟨b', off', e1, hb1, hc⟩ := (HIN.out.below bel).cells HX.out
          obtain ⟨rfl, rfl⟩ : b = b' ∧ off = off' := by injection e1 with e1; injection e1 with e2 e3; exact ⟨e2, e3⟩
          obtain ⟨c0, c1⟩ := hc j hjx
          have hok := of_decide_eq_true (HV.out xs[j] (List.getElem_mem hjx))
          obtain ⟨x1, hx1⟩ : ∃ x, xs[j].1 = x := ⟨_, rfl⟩
          obtain ⟨x2, hx2⟩ : ∃ x, xs[j].2 = x := ⟨_, rfl⟩
          have HY : Hid (xs[j] = (x1, x2)) := Prod.ext hx1 hx2
          rw [hx1] at c0 hok
          rw [hx2] at c1 hok
          obtain ⟨k0, k1, k2⟩ := hok
          clear e1 hc hx1 hx2 hb1
          obtain ⟨au, cu, rfl, hinU⟩ := AggsAt.spIn own.out
          obtain ⟨m, hm⟩ : ∃ m, U.length = m := ⟨_, rfl⟩
          rw [hm] at hul ⊢
          have HM := Lib.hid hm
          have IU := Lib.hid hinU
          have HU := Lib.hid hu.out
          have UV := Lib.hid (hu.out.valid (fun s hs => HV.out s (List.mem_of_mem_take hs)))
          clear hinU hm own hu
          obtain ⟨W, rfl⟩ : ∃ W, W = wr := ⟨_, rfl⟩
          have BW := Lib.hid bel
          have hWs := bel.size
          clear bel
          go_wp2
          go_loopw [8, 9] (fun vr i wr2 => ∃ (q : Nat) (R : List Sp) (s1 s2 : Int), q ≤ m ∧ i = .int .i64 q ∧ Hid (RInv U q (x1, x2) R (s1, s2)) ∧ 0 ≤ s1 ∧ s2 ≤ 16777216 ∧ R.length ≤ q ∧ Hid (AggsAt 43 2 encSp wr2 (W.heap.size + 1) vr R) ∧ Hid (wr2.heap[W.heap.size]? = some (.cells #[.int .i64 s1, .int .i64 s2] 43 (0, 0))) ∧ Below W.heap.size W wr2 ∧ W.heap.size + 1 ≤ wr2.heap.size ∧ Hid (R = [] → vr = .slice none 0 0)) (fun _ i _ => m - (intOf i).toNat)
          case atStart => exact ⟨0, [], x1, x2, Nat.zero_le _, rfl, RInv.start U (by show x1 < x2; omega), k0, k2, Nat.le_refl _, AggsAt.nil _ _ _ _ _, heap_alloc_new W _, (Below.refl _ _).alloc (Nat.le_refl _) _, by simp, fun _ => rfl⟩
          case round =>
            obtain ⟨q, R, s1, s2, hq, rfl, hri, hs1, hs2, hrl, own, hx, bel, hsz, hnil⟩ := hrel
            by_cases hqm : q < m
            · have hqu : q < U.length := by rw [HM.out]; exact hqm
              obtain ⟨bu, ou, rfl, hbu, hcu⟩ := IU.out.cells (fun e => by rw [e] at hqu; simp at hqu)
              obtain ⟨d0, d1⟩ := hcu q hqu
              rw [← bel.cell (p := ⟨bu, ou + q * 2, none⟩) hbu] at d0
              rw [← bel.cell (p := ⟨bu, ou + q * 2 + 1, none⟩) hbu] at d1
              obtain ⟨e0, e1, e2, e3⟩ := cells2 hx.out
              obtain ⟨o1, ho1⟩ : ∃ x, U[q].1 = x := ⟨_, rfl⟩
              obtain ⟨o2, ho2⟩ : ∃ x, U[q].2 = x := ⟨_, rfl⟩
              have HO : Hid (U[q] = (o1, o2)) := Prod.ext ho1 ho2
              rw [ho1] at d0
              rw [ho2] at d1
              have OL := Lib.hid (World.ownsRow.lt own.out)
              clear hcu ho1 ho2 hbu
              by_cases g1 : o2 < s1
              · have tt : decide (o2 < s1) = true := decide_eq_true g1
                have RK := Lib.hid (by have := hri.out.keep hqu (by rw [HO.out]; exact .inl g1); rw [HO.out] at this; exact this : RInv U (q + 1) (x1, x2) (R ++ [(o1, o2)]) (s1, s2))
                go_wp2
                go_quiet (fail)
                go_wp2_with (at_builtin; refine wpList_append_own _ rfl (.tmp 58) (.tmp 63) 41 rfl (W.heap.size + 1) 43 i0 _ 2 16 Tryd.underlying41 hi hz0 hz1 hz2 rfl (by decide) u8 R.length (flat encSp R) rfl ((aggs_drewN own.out nq).alloc _) ⟨wr.heap.size, 0, none⟩ 1 1 (encSp (o1, o2)) rfl rfl ?qc1 ?qc2 ?qc3 ?qc4 ?qc5 ?_)
                case qc1 => exact cell_new2 _ _ (by simp) _ o1 o2
                case qc2 => exact encSp_one (o1, o2)
                case qc3 => unfold maxLen; omega
                case qc4 => omega
                case qc5 => simp; omega
                intro v' w5 hown' hgrow hnil'
                have OWN := Lib.hid (AggsAt.push hown')
                have BEL := Lib.hid (((below_drewN bel nq).alloc (by simp; omega) (.cells #[.int .i64 o1, .int .i64 o2] 43)).grown hgrow (by simp; omega) (fun k hk => by have := (OL.out k hk).1; omega))
                have HX5 : Hid (w5.heap[W.heap.size]? = some (.cells #[.int .i64 s1, .int .i64 s2] 43 (0, 0))) := by
                  have e := hgrow.block W.heap.size (by simp; omega) (fun e => by have := (OL.out _ e.symm).1; omega)
                  rw [Below.heap_alloc _ _ _ (by simp; omega)] at e
                  exact e.trans hx.out
                have S5 : W.heap.size + 1 ≤ w5.heap.size := by have := hgrow.size; simp at this; omega
                clear hown' hgrow hnil'
                go_wp2
                go_roundw
                case rel => exact ⟨q + 1, R ++ [(o1, o2)], s1, s2, by omega, by go_num, RK, hs1, hs2, by simp; omega, OWN, HX5, BEL.out, S5, Lib.hid (fun e => by simp at e)⟩
                case measure => simp [intOf]; omega
              · have tt : decide (o2 < s1) = false := decide_eq_false g1
                by_cases g2 : s2 < o1
                · have tt2 : decide (s2 < o1) = true := decide_eq_true g2
                  have RK := Lib.hid (by have := hri.out.keep hqu (by rw [HO.out]; exact .inr g2); rw [HO.out] at this; exact this : RInv U (q + 1) (x1, x2) (R ++ [(o1, o2)]) (s1, s2))
                  go_wp2
                  go_quiet (fail)
                  go_wp2_with (at_builtin; refine wpList_append_own _ rfl (.tmp 58) (.tmp 63) 41 rfl (W.heap.size + 1) 43 i0 _ 2 16 Tryd.underlying41 hi hz0 hz1 hz2 rfl (by decide) u8 R.length (flat encSp R) rfl ((aggs_drewN own.out nq).alloc _) ⟨wr.heap.size, 0, none⟩ 1 1 (encSp (o1, o2)) rfl rfl ?qc1 ?qc2 ?qc3 ?qc4 ?qc5 ?_)
                  case qc1 => exact cell_new2 _ _ (by simp) _ o1 o2
                  case qc2 => exact encSp_one (o1, o2)
                  case qc3 => unfold maxLen; omega
                  case qc4 => omega
                  case qc5 => simp; omega
                  intro v' w5 hown' hgrow hnil'
                  have OWN := Lib.hid (AggsAt.push hown')
                  have BEL := Lib.hid (((below_drewN bel nq).alloc (by simp; omega) (.cells #[.int .i64 o1, .int .i64 o2] 43)).grown hgrow (by simp; omega) (fun k hk => by have := (OL.out k hk).1; omega))
                  have HX5 : Hid (w5.heap[W.heap.size]? = some (.cells #[.int .i64 s1, .int .i64 s2] 43 (0, 0))) := by
                    have e := hgrow.block W.heap.size (by simp; omega) (fun e => by have := (OL.out _ e.symm).1; omega)
                    rw [Below.heap_alloc _ _ _ (by simp; omega)] at e
                    exact e.trans hx.out
                  have S5 : W.heap.size + 1 ≤ w5.heap.size := by have := hgrow.size; simp at this; omega
                  clear hown' hgrow hnil'
                  go_wp2
                  go_roundw
                  case rel => exact ⟨q + 1, R ++ [(o1, o2)], s1, s2, by omega, by go_num, RK, hs1, hs2, by simp; omega, OWN, HX5, BEL.out, S5, Lib.hid (fun e => by simp at e)⟩
                  case measure => simp [intOf]; omega
                · have tt2 : decide (s2 < o1) = false := decide_eq_false g2
                  go_wp2
                  go_quiet (fail)
                  go_wp2
                  go_region
                  have RK := Lib.hid (by have := hri.out.take HU.out.1 hqu (by rw [HO.out]; exact g1) (by rw [HO.out]; exact g2); rw [HO.out] at this; exact this : RInv U (q + 1) (x1, x2) R (min s1 o1, max s2 o2))
                  have OWN := Lib.hid (own.out.grown (gb_set (.int .i64 (max s2 o2)) (gb_set (.int .i64 (min s1 o1)) (gb_drewN (nq + 1) (gb_refl wr (some W.heap.size))))) (fun k hk => by cases hk; omega) : AggsAt 43 2 encSp (((wr.drewN (nq + 1)).setCell ⟨W.heap.size, 0, none⟩ (.int .i64 (min s1 o1))).setCell ⟨W.heap.size, 1, none⟩ (.int .i64 (max s2 o2))) (W.heap.size + 1) u8 R)
                  have BEL := Lib.hid (((below_drewN bel (nq + 1)).setCell (p := ⟨W.heap.size, 0, none⟩) (Nat.le_refl _) (.int .i64 (min s1 o1))).setCell (p := ⟨W.heap.size, 1, none⟩) (Nat.le_refl _) (.int .i64 (max s2 o2)))
                  have HX5 := Lib.hid (set2_both (w := wr.drewN (nq + 1)) (.int .i64 (min s1 o1)) (.int .i64 (max s2 o2)) hx.out)
                  have ob := HU.out.1
                  have hov := of_decide_eq_true (UV.out U[q] (List.getElem_mem hqu))
                  rw [HO.out] at hov
                  have hov1 : 0 ≤ o1 := hov.1
                  have hov2 : o2 ≤ 16777216 := hov.2.2
                  clear hov ob
                  go_wp2
                  go_roundw
                  case rel => exact ⟨q + 1, R, min s1 o1, max s2 o2, by omega, by go_num, RK, by omega, by omega, by omega, OWN, HX5, BEL.out, by simp; omega, hnil⟩
                  case measure => simp [intOf]; omega
            · obtain rfl : q = m := by omega
              obtain ⟨W3, rfl⟩ : ∃ W3, W3 = wr := ⟨_, rfl⟩
              obtain ⟨e0, e1, e2, e3⟩ := cells2 hx.out
              obtain ⟨r, hr⟩ : ∃ r, R.length = r := ⟨_, rfl⟩
              have HR := Lib.hid hr
              have RI := Lib.hid (show RInv U U.length (x1, x2) R (s1, s2) from by rw [HM.out]; exact hri.out)
              have BEL := Lib.hid bel
              rcases own.out.shape encSp_len with ⟨rfl, hR⟩ | ⟨gr, cr, rfl, hgr, hgr1, hcr, hcm, hcell, hfree⟩
              · subst hR
                clear hr hri bel hqm hq
                go_wp2
                refine wp_loop_rounds 1 ?_; rw [rounds_succ]
                go_wp2
                go_quiet (fail)
                go_wp2
                obtain ⟨W4, hW4⟩ : ∃ W4, W3.drewN nq = W4 := ⟨_, rfl⟩
                rw [hW4]
                have b4 : Below W3.heap.size W3 W4 := by rw [← hW4]; exact below_drewN (Below.refl _ _) nq
                have BEL4 := Lib.hid (BEL.out.trans (b4.mono (by omega)))
                have f0 : W4.cell? ⟨W.heap.size, 0, none⟩ = some (.int .i64 s1) := by rw [b4.cell (p := ⟨W.heap.size, 0, none⟩) (by show W.heap.size < _; omega)]; exact e0
                have f1 : W4.cell? ⟨W.heap.size, 1, none⟩ = some (.int .i64 s2) := by rw [b4.cell (p := ⟨W.heap.size, 1, none⟩) (by show W.heap.size < _; omega)]; exact e1
                have hsz4 : W.heap.size + 1 ≤ W4.heap.size := Nat.le_trans hsz b4.size
                clear hW4 b4 e0 e1 e2 e3
                go_region_held3 (fun w' => w'.cell? ⟨W.heap.size, 0, none⟩ = some (.int .i64 s1) ∧ w'.cell? ⟨W.heap.size, 1, none⟩ = some (.int .i64 s2))
                  (first | go_keep | exact keep_alloc (by assumption) _ | assumption | exact keep_grown (by assumption) hgrow2 (by simp [Value.ownBlock]))
                  (first
                    | (refine step_append_none (by rfl) (.const (.slice none 0 0)) (.tmp 100) 41 (by rfl) W4.heap.size 43 i0 2 Tryd.underlying41 hi (.slice none 0 0) 0 [] (by rfl) (World.ownsRow_nil _ _ _ _) (by rfl) ?_)
                    | (refine step_append_own (by rfl) (.tmp 101) (.tmp 103) 41 (by rfl) W4.heap.size 43 i0 _ 2 16 Tryd.underlying41 hi hz0 hz1 hz2 rfl (by decide) (.slice none 0 0) 0 [] (by rfl) (World.ownsRow_nil _ _ _ _) ⟨W4.heap.size, 0, none⟩ 1 1 (encSp (s1, s2)) (by rfl) rfl (cell_new2 W4 W4.heap.size rfl 43 s1 s2) (encSp_one (s1, s2)) (by unfold maxLen; omega) (by omega) (by simp) ?_; intro v2 w2 hown2 hgrow2 hn2))
                all_goals (
                  have B2 : Below W4.heap.size W4 w2 := by
                    first
                      | exact ((Below.refl W4.heap.size W4).drew.alloc (by simp) _).grown hgrow2 (by simp) (fun k hk => by simp [Value.ownBlock] at hk)
                      | exact ((Below.refl W4.heap.size W4).alloc (Nat.le_refl _) _).drew.grown hgrow2 (by simp) (fun k hk => by simp [Value.ownBlock] at hk)
                  have O2 := Lib.hid hown2
                  have BB2 := Lib.hid (BEL4.out.trans (B2.mono (by omega)))
                  have hs2 := B2.size
                  clear hown2 hgrow2 hn2 B2
                  go_wp2_with (at_builtin; refine wpList_append_own_none rfl (.tmp 105) (.tmp 108) 41 rfl W4.heap.size 43 i0 2 Tryd.underlying41 hi v2 1 (encSp (s1, s2)) rfl O2.out rfl ?_)
                  have OWN := Lib.hid (show AggsAt 43 2 encSp w2 W4.heap.size v2 [(s1, s2)] from by
                    show w2.ownsRow _ _ 2 v2 1 (flat encSp [(s1, s2)])
                    rw [flat_one]; exact O2.out)
                  have UN := Lib.hid (show IsUnion (xs.take (j + 1)) [(s1, s2)] from by
                    rw [take_next hjx, HY.out]
                    exact RI.out.done (at_ := 0) HU.out (Nat.le_refl _) (fun x hx => by simp at hx) (fun h => by simp at h))
                  have BW3 := Lib.hid (BW.out.trans (BB2.out.mono hWs))
                  go_wp2
                  go_roundw
                  case rel => exact ⟨j + 1, _, by omega, by go_num, BW3.out, UN, by simp, OWN.out.mono (by omega)⟩
                  case measure => simp [intOf]; omega)
              · have hR0 : R ≠ [] := fun e => by have := hnil.out e; cases this
                have hr0 : 0 < r := by rw [← hr]; exact List.length_pos_iff.2 hR0
                rw [hr] at hcr hrl ⊢
                have HC := Lib.hid hcell
                clear hr hri bel hqm hq hcell hfree hR0 own
                go_wp2
                go_loopw [10] (fun i wr2 => ∃ (p d : Nat), p ≤ r ∧ i = .int .i64 p ∧ Hid (∀ x ∈ R.take p, x.1 < s1) ∧ wr2 = W3.drewN d) (fun i _ => r - (intOf i).toNat)
                case atStart => exact ⟨0, 0, Nat.zero_le _, rfl, (fun x hx => by simp at hx), rfl⟩
                case round =>
                  obtain ⟨p, d, hp, rfl, hbef, rfl⟩ := hrel
                  by_cases hpr : p < r
                  · have hpR : p < R.length := by rw [HR.out]; exact hpr
                    have y0 := HC.out.get encSp_len p hpR 0 (by decide) (.int .i64 R[p].1) rfl
                    rw [Nat.zero_add, Nat.add_zero] at y0
                    obtain ⟨y, hy⟩ : ∃ x, R[p].1 = x := ⟨_, rfl⟩
                    rw [hy] at y0
                    have HYY := Lib.hid hy
                    have tp : decide ((p : Int) < (r : Int)) = true := decide_eq_true (by omega)
                    clear hy
                    by_cases g : y < s1
                    · have tt : decide (y < s1) = true := decide_eq_true g
                      have BF := Lib.hid (show ∀ x ∈ R.take (p + 1), x.1 < s1 from fun x hx => by
                        rw [take_next hpR] at hx
                        rcases List.mem_append.1 hx with hx | hx
                        · exact hbef.out x hx
                        · obtain rfl : x = R[p] := by simpa using hx
                          rw [HYY.out]; exact g)
                      go_wp2
                      go_quiet (fail)
                      go_wp2
                      go_roundw
                      case rel => exact ⟨p + 1, _, by omega, by go_num, BF, by first | rfl | (rw [← World.drewN_drewN]; rfl)⟩
                      case measure => simp [intOf]; omega
                    · have tt : decide (y < s1) = false := decide_eq_false g
                      go_wp2
                      go_quiet (fail)
                      go_wp2
                      obtain ⟨W4, hW4⟩ : ∃ W4, (W3.drewN d).drewN nq = W4 := ⟨_, rfl⟩
                      rw [hW4]
                      have b4 : Below W3.heap.size W3 W4 := by rw [← hW4]; exact below_drewN (below_drewN (Below.refl _ _) d) nq
                      have BEL4 := Lib.hid (BEL.out.trans (b4.mono (by omega)))
                      have HC4 := Lib.hid (HC.out.below b4)
                      have f0 : W4.cell? ⟨W.heap.size, 0, none⟩ = some (.int .i64 s1) := by rw [b4.cell (p := ⟨W.heap.size, 0, none⟩) (by show W.heap.size < _; omega)]; exact e0
                      have f1 : W4.cell? ⟨W.heap.size, 1, none⟩ = some (.int .i64 s2) := by rw [b4.cell (p := ⟨W.heap.size, 1, none⟩) (by show W.heap.size < _; omega)]; exact e1
                      have hsz4 : W.heap.size + 1 ≤ W4.heap.size := Nat.le_trans hsz b4.size
                      have hgr4 : gr < W4.heap.size := Nat.lt_of_lt_of_le hgr1 b4.size
                      have tb1 : (0 : Int) ≤ (p : Int) := by omega
                      have tb2 : (p : Int) ≤ (cr : Int) := by omega
                      have tb3 : (p : Int) ≤ (r : Int) := by omega
                      clear hW4 b4 e0 e1 e2 e3
                      have LP : Hid ((flat encSp (R.take p)).length = p * 2) := by
                        show _ = _
                        rw [flat_length encSp_len, List.length_take, HR.out, Nat.min_eq_left hp]
                      have NW1 : Hid (∀ wx, Below W4.heap.size W4 wx → ∀ j u, (flat encSp (R.take p))[j]? = some u → wx.cell? ((⟨gr, 0, none⟩ : Addr).add j) = some u) := fun wx hb j u hu => by
                        have e : ((⟨gr, 0, none⟩ : Addr).add j) = ⟨gr, 0 + j, none⟩ := by unfold Addr.add; split <;> simp_all
                        rw [e]
                        refine (HC4.out.below hb) j u ?_
                        rw [← List.take_append_drop p R, flat_append, List.getElem?_append_left (List.getElem?_eq_some_iff.1 hu).1]; exact hu
                      have hX : W.heap.size < W4.heap.size := by omega
                      go_region_held3 (fun w' => w'.cell? ⟨W.heap.size, 0, none⟩ = some (.int .i64 s1) ∧ w'.cell? ⟨W.heap.size, 1, none⟩ = some (.int .i64 s2))
                        (first | go_keep | exact keep_alloc (by assumption) _ | exact keep_grown (by assumption) hgrow1 (by simp [Value.ownBlock]) | exact keep_grown (by assumption) hgrow2 (fun e => by have := (World.ownsRow.lt hown1 _ e.symm).1; omega))
                        (first
                          | (refine step_append_own (by rfl) (.const (.slice none 0 0)) (.tmp 100) 41 (by rfl) W4.heap.size 43 i0 _ 2 16 Tryd.underlying41 hi hz0 hz1 hz2 rfl (by decide) (.slice none 0 0) 0 [] (by rfl) (World.ownsRow_nil _ _ _ _) ⟨gr, 0, none⟩ p cr (flat encSp (R.take p)) (by rfl) LP.out (NW1.out _ (by repeat (first | exact Below.refl _ _ | apply Below.drew | apply below_drewN | refine Below.alloc ?_ (by simp) _))) (flat_oneCell encSp_one _) (by unfold maxLen; omega) (by omega) (by simp) ?_; intro v1 w1 hown1 hgrow1 hn1)
                          | (refine step_append_own (by rfl) (.tmp 101) (.tmp 103) 41 (by rfl) W4.heap.size 43 i0 _ 2 16 Tryd.underlying41 hi hz0 hz1 hz2 rfl (by decide) v1 (0 + p) ([] ++ flat encSp (R.take p)) (by rfl) (hown1.alloc _) ⟨w1.heap.size, 0, none⟩ 1 1 (encSp (s1, s2)) (by rfl) rfl (cell_new2 _ _ rfl _ s1 s2) (encSp_one (s1, s2)) (by unfold maxLen; omega) (by omega) (by have := hgrow1.size; simp at this ⊢; omega) ?_; intro v2 w2 hown2 hgrow2 hn2)
                          | (refine step_append_own (by rfl) (.tmp 101) (.tmp 103) 41 (by rfl) W4.heap.size 43 i0 _ 2 16 Tryd.underlying41 hi hz0 hz1 hz2 rfl (by decide) v1 (0 + p) ([] ++ flat encSp (R.take p)) (by rfl) hown1 ⟨W4.heap.size, 0, none⟩ 1 1 (encSp (s1, s2)) (by rfl) rfl (by refine news_far (w := (W4.alloc (.cells #[.int .i64 s1, .int .i64 s2] 43)).drew) ?_ (show W4.heap.size < (W4.alloc (.cells #[.int .i64 s1, .int .i64 s2] 43)).heap.size from by simp) hgrow1 (by simp [Value.ownBlock]); exact cell_new2 W4 W4.heap.size rfl 43 s1 s2) (encSp_one (s1, s2)) (by unfold maxLen; omega) (by omega) (by have := hgrow1.size; simp at this ⊢; omega) ?_; intro v2 w2 hown2 hgrow2 hn2))
                      all_goals (
                        have OL1 := Lib.hid (World.ownsRow.lt hown1)
                        have B2 : Below W4.heap.size W4 w2 := by
                          first
                            | exact (((Below.refl _ _).drew.grown hgrow1 (Nat.le_refl _) (fun k hk => by simp [Value.ownBlock] at hk)).alloc (by have h1 := hgrow1.size; simp at h1; exact h1) _).grown hgrow2 (by have h1 := hgrow1.size; simp at h1 ⊢; omega) (fun k hk => (OL1.out k hk).1)
                            | exact (((Below.refl _ _).alloc (Nat.le_refl _) _).drew.grown hgrow1 (by simp) (fun k hk => by simp [Value.ownBlock] at hk)).grown hgrow2 (by have h1 := hgrow1.size; simp at h1; omega) (fun k hk => (OL1.out k hk).1)
                        have O2 := Lib.hid hown2
                        have BB2 := Lib.hid (BEL4.out.trans (B2.mono (by omega)))
                        have HC2 := Lib.hid (HC4.out.below B2)
                        have hs2 := B2.size
                        clear hown1 hown2 hgrow1 hgrow2 hn1 hn2 OL1 B2
                        go_wp2_with (at_builtin; refine wpList_append_own _ rfl (.tmp 105) (.tmp 108) 41 rfl W4.heap.size 43 i0 _ 2 16 Tryd.underlying41 hi hz0 hz1 hz2 rfl (by decide) v2 (0 + p + 1) ([] ++ flat encSp (R.take p) ++ encSp (s1, s2)) rfl O2.out ⟨gr, p * 2, none⟩ (r - p) (cr - p) (flat encSp (R.drop p)) rfl ?qc1 ?qc2 ?qc3 ?qc4 ?qc5 ?qc6 ?_)
                        case qc1 => have e := flat_length encSp_len (R.drop p); rw [List.length_drop, HR.out] at e; omega
                        case qc2 => exact HC2.out.drop (by rw [HR.out]; omega)
                        case qc3 => exact flat_oneCell encSp_one _
                        case qc4 => unfold maxLen; omega
                        case qc5 => omega
                        case qc6 => omega
                        intro v3 w3 hown3 hgrow3 hn3
                        have OL2 := Lib.hid (World.ownsRow.lt O2.out)
                        have BB3 := Lib.hid (BB2.out.grown hgrow3 (by omega) (fun k hk => by have := (OL2.out k hk).1; omega))
                        have OWN := Lib.hid (show AggsAt 43 2 encSp w3 W4.heap.size v3 (R.take p ++ (s1, s2) :: R.drop p) from by
                          show w3.ownsRow _ _ 2 v3 (R.take p ++ (s1, s2) :: R.drop p).length (flat encSp (R.take p ++ (s1, s2) :: R.drop p))
                          have e1 : (R.take p ++ (s1, s2) :: R.drop p).length = p + 1 + (r - p) := by
                            rw [List.length_append, List.length_cons, List.length_take, List.length_drop, HR.out]; omega
                          have e2 : flat encSp (R.take p ++ (s1, s2) :: R.drop p) = flat encSp (R.take p) ++ (encSp (s1, s2) ++ flat encSp (R.drop p)) := by
                            rw [flat_append, flat_cons]
                          rw [e1, e2]
                          first | exact hown3 | (have hh := hown3; simp only [Nat.zero_add, List.nil_append, List.append_assoc, Nat.add_zero] at hh; exact hh))
                        have UN := Lib.hid (show IsUnion (xs.take (j + 1)) (R.take p ++ (s1, s2) :: R.drop p) from by
                          rw [take_next hjx, HY.out]
                          exact RI.out.done HU.out (by rw [HR.out]; omega) hbef.out (fun h => by rw [HYY.out]; omega))
                        have LN : (R.take p ++ (s1, s2) :: R.drop p).length ≤ j + 1 := by
                          rw [List.length_append, List.length_cons, List.length_take, List.length_drop, HR.out]; omega
                        have BW3 := Lib.hid (BW.out.trans (BB3.out.mono hWs))
                        clear hown3 hgrow3 hn3 OL2
                        go_wp2
                        go_roundw
                        case rel => exact ⟨j + 1, _, by omega, by go_num, BW3.out, UN, LN, OWN.out.mono (by omega)⟩
                        case measure => simp [intOf]; omega)
                  · obtain rfl : p = r := by omega
                    by_cases hcr : cr = p
                    · have hcr' : p = cr := hcr.symm
                      subst hcr'
                      clear hcr
                      go_wp2
                      go_quiet (fail)
                      go_wp2
                      obtain ⟨W4, hW4⟩ : ∃ W4, (W3.drewN d).drewN nq = W4 := ⟨_, rfl⟩
                      rw [hW4]
                      have b4 : Below W3.heap.size W3 W4 := by rw [← hW4]; exact below_drewN (below_drewN (Below.refl _ _) d) nq
                      have BEL4 := Lib.hid (BEL.out.trans (b4.mono (by omega)))
                      have HC4 := Lib.hid (HC.out.below b4)
                      have f0 : W4.cell? ⟨W.heap.size, 0, none⟩ = some (.int .i64 s1) := by rw [b4.cell (p := ⟨W.heap.size, 0, none⟩) (by show W.heap.size < _; omega)]; exact e0
                      have f1 : W4.cell? ⟨W.heap.size, 1, none⟩ = some (.int .i64 s2) := by rw [b4.cell (p := ⟨W.heap.size, 1, none⟩) (by show W.heap.size < _; omega)]; exact e1
                      have hsz4 : W.heap.size + 1 ≤ W4.heap.size := Nat.le_trans hsz b4.size
                      have hgr4 : gr < W4.heap.size := Nat.lt_of_lt_of_le hgr1 b4.size
                      have tb1 : (0 : Int) ≤ (p : Int) := by omega
                      have tb2 : (p : Int) ≤ (p : Int) := by omega
                      have tb3 : (p : Int) ≤ (p : Int) := by omega
                      clear hW4 b4 e0 e1 e2 e3
                      have LP : Hid ((flat encSp (R.take p)).length = p * 2) := by
                        show _ = _
                        rw [flat_length encSp_len, List.length_take, HR.out, Nat.min_eq_left hp]
                      have NW1 : Hid (∀ wx, Below W4.heap.size W4 wx → ∀ j u, (flat encSp (R.take p))[j]? = some u → wx.cell? ((⟨gr, 0, none⟩ : Addr).add j) = some u) := fun wx hb j u hu => by
                        have e : ((⟨gr, 0, none⟩ : Addr).add j) = ⟨gr, 0 + j, none⟩ := by unfold Addr.add; split <;> simp_all
                        rw [e]
                        refine (HC4.out.below hb) j u ?_
                        rw [← List.take_append_drop p R, flat_append, List.getElem?_append_left (List.getElem?_eq_some_iff.1 hu).1]; exact hu
                      have hX : W.heap.size < W4.heap.size := by omega
                      go_region_held3 (fun w' => w'.cell? ⟨W.heap.size, 0, none⟩ = some (.int .i64 s1) ∧ w'.cell? ⟨W.heap.size, 1, none⟩ = some (.int .i64 s2))
                        (first | go_keep | exact keep_alloc (by assumption) _ | exact keep_grown (by assumption) hgrow1 (by simp [Value.ownBlock]) | exact keep_grown (by assumption) hgrow2 (fun e => by have := (World.ownsRow.lt hown1 _ e.symm).1; omega))
                        (first
                          | (refine step_append_own (by rfl) (.const (.slice none 0 0)) (.tmp 100) 41 (by rfl) W4.heap.size 43 i0 _ 2 16 Tryd.underlying41 hi hz0 hz1 hz2 rfl (by decide) (.slice none 0 0) 0 [] (by rfl) (World.ownsRow_nil _ _ _ _) ⟨gr, 0, none⟩ p p (flat encSp (R.take p)) (by rfl) LP.out (NW1.out _ (by repeat (first | exact Below.refl _ _ | apply Below.drew | apply below_drewN | refine Below.alloc ?_ (by simp) _))) (flat_oneCell encSp_one _) (by unfold maxLen; omega) (by omega) (by simp) ?_; intro v1 w1 hown1 hgrow1 hn1)
                          | (refine step_append_own (by rfl) (.tmp 101) (.tmp 103) 41 (by rfl) W4.heap.size 43 i0 _ 2 16 Tryd.underlying41 hi hz0 hz1 hz2 rfl (by decide) v1 (0 + p) ([] ++ flat encSp (R.take p)) (by rfl) (hown1.alloc _) ⟨w1.heap.size, 0, none⟩ 1 1 (encSp (s1, s2)) (by rfl) rfl (cell_new2 _ _ rfl _ s1 s2) (encSp_one (s1, s2)) (by unfold maxLen; omega) (by omega) (by have := hgrow1.size; simp at this ⊢; omega) ?_; intro v2 w2 hown2 hgrow2 hn2)
                          | (refine step_append_own (by rfl) (.tmp 101) (.tmp 103) 41 (by rfl) W4.heap.size 43 i0 _ 2 16 Tryd.underlying41 hi hz0 hz1 hz2 rfl (by decide) v1 (0 + p) ([] ++ flat encSp (R.take p)) (by rfl) hown1 ⟨W4.heap.size, 0, none⟩ 1 1 (encSp (s1, s2)) (by rfl) rfl (by refine news_far (w := (W4.alloc (.cells #[.int .i64 s1, .int .i64 s2] 43)).drew) ?_ (show W4.heap.size < (W4.alloc (.cells #[.int .i64 s1, .int .i64 s2] 43)).heap.size from by simp) hgrow1 (by simp [Value.ownBlock]); exact cell_new2 W4 W4.heap.size rfl 43 s1 s2) (encSp_one (s1, s2)) (by unfold maxLen; omega) (by omega) (by have := hgrow1.size; simp at this ⊢; omega) ?_; intro v2 w2 hown2 hgrow2 hn2))
                      all_goals (
                        have OL1 := Lib.hid (World.ownsRow.lt hown1)
                        have B2 : Below W4.heap.size W4 w2 := by
                          first
                            | exact (((Below.refl _ _).drew.grown hgrow1 (Nat.le_refl _) (fun k hk => by simp [Value.ownBlock] at hk)).alloc (by have h1 := hgrow1.size; simp at h1; exact h1) _).grown hgrow2 (by have h1 := hgrow1.size; simp at h1 ⊢; omega) (fun k hk => (OL1.out k hk).1)
                            | exact (((Below.refl _ _).alloc (Nat.le_refl _) _).drew.grown hgrow1 (by simp) (fun k hk => by simp [Value.ownBlock] at hk)).grown hgrow2 (by have h1 := hgrow1.size; simp at h1; omega) (fun k hk => (OL1.out k hk).1)
                        have O2 := Lib.hid hown2
                        have BB2 := Lib.hid (BEL4.out.trans (B2.mono (by omega)))
                        have HC2 := Lib.hid (HC4.out.below B2)
                        have hs2 := B2.size
                        clear hown1 hown2 hgrow1 hgrow2 hn1 hn2 OL1 B2
                        go_wp2_with (at_builtin; refine wpList_append_own _ rfl (.tmp 105) (.tmp 108) 41 rfl W4.heap.size 43 i0 _ 2 16 Tryd.underlying41 hi hz0 hz1 hz2 rfl (by decide) v2 (0 + p + 1) ([] ++ flat encSp (R.take p) ++ encSp (s1, s2)) rfl O2.out ⟨gr, 0, none⟩ 0 0 (flat encSp (R.drop p)) rfl ?qc1 ?qc2 ?qc3 ?qc4 ?qc5 ?qc6 ?_)
                        case qc1 => have e := flat_length encSp_len (R.drop p); rw [List.length_drop, HR.out] at e; omega
                        case qc2 => intro j u hu; rw [List.drop_of_length_le (by rw [HR.out]; omega)] at hu; simp [flat] at hu
                        case qc3 => exact flat_oneCell encSp_one _
                        case qc4 => unfold maxLen; omega
                        case qc5 => omega
                        case qc6 => omega
                        intro v3 w3 hown3 hgrow3 hn3
                        have OL2 := Lib.hid (World.ownsRow.lt O2.out)
                        have BB3 := Lib.hid (BB2.out.grown hgrow3 (by omega) (fun k hk => by have := (OL2.out k hk).1; omega))
                        have OWN := Lib.hid (show AggsAt 43 2 encSp w3 W4.heap.size v3 (R.take p ++ (s1, s2) :: R.drop p) from by
                          show w3.ownsRow _ _ 2 v3 (R.take p ++ (s1, s2) :: R.drop p).length (flat encSp (R.take p ++ (s1, s2) :: R.drop p))
                          have e1 : (R.take p ++ (s1, s2) :: R.drop p).length = p + 1 + 0 := by
                            rw [List.length_append, List.length_cons, List.length_take, List.length_drop, HR.out]; omega
                          have e2 : flat encSp (R.take p ++ (s1, s2) :: R.drop p) = flat encSp (R.take p) ++ (encSp (s1, s2) ++ flat encSp (R.drop p)) := by
                            rw [flat_append, flat_cons]
                          rw [e1, e2]
                          first | exact hown3 | (have hh := hown3; simp only [Nat.zero_add, List.nil_append, List.append_assoc, Nat.add_zero] at hh; exact hh))
                        have UN := Lib.hid (show IsUnion (xs.take (j + 1)) (R.take p ++ (s1, s2) :: R.drop p) from by
                          rw [take_next hjx, HY.out]
                          exact RI.out.done HU.out (by rw [HR.out]; omega) hbef.out (fun h => absurd h (by rw [HR.out]; omega)))
                        have LN : (R.take p ++ (s1, s2) :: R.drop p).length ≤ j + 1 := by
                          rw [List.length_append, List.length_cons, List.length_take, List.length_drop, HR.out]; omega
                        have BW3 := Lib.hid (BW.out.trans (BB3.out.mono hWs))
                        clear hown3 hgrow3 hn3 OL2
                        go_wp2
                        go_roundw
                        case rel => exact ⟨j + 1, _, by omega, by go_num, BW3.out, UN, LN, OWN.out.mono (by omega)⟩
                        case measure => simp [intOf]; omega)
                    · go_wp2
                      go_quiet (fail)
                      go_wp2
                      obtain ⟨W4, hW4⟩ : ∃ W4, (W3.drewN d).drewN nq = W4 := ⟨_, rfl⟩
                      rw [hW4]
                      have b4 : Below W3.heap.size W3 W4 := by rw [← hW4]; exact below_drewN (below_drewN (Below.refl _ _) d) nq
                      have BEL4 := Lib.hid (BEL.out.trans (b4.mono (by omega)))
                      have HC4 := Lib.hid (HC.out.below b4)
                      have f0 : W4.cell? ⟨W.heap.size, 0, none⟩ = some (.int .i64 s1) := by rw [b4.cell (p := ⟨W.heap.size, 0, none⟩) (by show W.heap.size < _; omega)]; exact e0
                      have f1 : W4.cell? ⟨W.heap.size, 1, none⟩ = some (.int .i64 s2) := by rw [b4.cell (p := ⟨W.heap.size, 1, none⟩) (by show W.heap.size < _; omega)]; exact e1
                      have hsz4 : W.heap.size + 1 ≤ W4.heap.size := Nat.le_trans hsz b4.size
                      have hgr4 : gr < W4.heap.size := Nat.lt_of_lt_of_le hgr1 b4.size
                      have tb1 : (0 : Int) ≤ (p : Int) := by omega
                      have tb2 : (p : Int) ≤ (cr : Int) := by omega
                      have tb3 : (p : Int) ≤ (p : Int) := by omega
                      clear hW4 b4 e0 e1 e2 e3
                      have LP : Hid ((flat encSp (R.take p)).length = p * 2) := by
                        show _ = _
                        rw [flat_length encSp_len, List.length_take, HR.out, Nat.min_eq_left hp]
                      have NW1 : Hid (∀ wx, Below W4.heap.size W4 wx → ∀ j u, (flat encSp (R.take p))[j]? = some u → wx.cell? ((⟨gr, 0, none⟩ : Addr).add j) = some u) := fun wx hb j u hu => by
                        have e : ((⟨gr, 0, none⟩ : Addr).add j) = ⟨gr, 0 + j, none⟩ := by unfold Addr.add; split <;> simp_all
                        rw [e]
                        refine (HC4.out.below hb) j u ?_
                        rw [← List.take_append_drop p R, flat_append, List.getElem?_append_left (List.getElem?_eq_some_iff.1 hu).1]; exact hu
                      have hX : W.heap.size < W4.heap.size := by omega
                      go_region_held3 (fun w' => w'.cell? ⟨W.heap.size, 0, none⟩ = some (.int .i64 s1) ∧ w'.cell? ⟨W.heap.size, 1, none⟩ = some (.int .i64 s2))
                        (first | go_keep | exact keep_alloc (by assumption) _ | exact keep_grown (by assumption) hgrow1 (by simp [Value.ownBlock]) | exact keep_grown (by assumption) hgrow2 (fun e => by have := (World.ownsRow.lt hown1 _ e.symm).1; omega))
                        (first
                          | (refine step_append_own (by rfl) (.const (.slice none 0 0)) (.tmp 100) 41 (by rfl) W4.heap.size 43 i0 _ 2 16 Tryd.underlying41 hi hz0 hz1 hz2 rfl (by decide) (.slice none 0 0) 0 [] (by rfl) (World.ownsRow_nil _ _ _ _) ⟨gr, 0, none⟩ p cr (flat encSp (R.take p)) (by rfl) LP.out (NW1.out _ (by repeat (first | exact Below.refl _ _ | apply Below.drew | apply below_drewN | refine Below.alloc ?_ (by simp) _))) (flat_oneCell encSp_one _) (by unfold maxLen; omega) (by omega) (by simp) ?_; intro v1 w1 hown1 hgrow1 hn1)
                          | (refine step_append_own (by rfl) (.tmp 101) (.tmp 103) 41 (by rfl) W4.heap.size 43 i0 _ 2 16 Tryd.underlying41 hi hz0 hz1 hz2 rfl (by decide) v1 (0 + p) ([] ++ flat encSp (R.take p)) (by rfl) (hown1.alloc _) ⟨w1.heap.size, 0, none⟩ 1 1 (encSp (s1, s2)) (by rfl) rfl (cell_new2 _ _ rfl _ s1 s2) (encSp_one (s1, s2)) (by unfold maxLen; omega) (by omega) (by have := hgrow1.size; simp at this ⊢; omega) ?_; intro v2 w2 hown2 hgrow2 hn2)
                          | (refine step_append_own (by rfl) (.tmp 101) (.tmp 103) 41 (by rfl) W4.heap.size 43 i0 _ 2 16 Tryd.underlying41 hi hz0 hz1 hz2 rfl (by decide) v1 (0 + p) ([] ++ flat encSp (R.take p)) (by rfl) hown1 ⟨W4.heap.size, 0, none⟩ 1 1 (encSp (s1, s2)) (by rfl) rfl (by refine news_far (w := (W4.alloc (.cells #[.int .i64 s1, .int .i64 s2] 43)).drew) ?_ (show W4.heap.size < (W4.alloc (.cells #[.int .i64 s1, .int .i64 s2] 43)).heap.size from by simp) hgrow1 (by simp [Value.ownBlock]); exact cell_new2 W4 W4.heap.size rfl 43 s1 s2) (encSp_one (s1, s2)) (by unfold maxLen; omega) (by omega) (by have := hgrow1.size; simp at this ⊢; omega) ?_; intro v2 w2 hown2 hgrow2 hn2))
                      all_goals (
                        have OL1 := Lib.hid (World.ownsRow.lt hown1)
                        have B2 : Below W4.heap.size W4 w2 := by
                          first
                            | exact (((Below.refl _ _).drew.grown hgrow1 (Nat.le_refl _) (fun k hk => by simp [Value.ownBlock] at hk)).alloc (by have h1 := hgrow1.size; simp at h1; exact h1) _).grown hgrow2 (by have h1 := hgrow1.size; simp at h1 ⊢; omega) (fun k hk => (OL1.out k hk).1)
                            | exact (((Below.refl _ _).alloc (Nat.le_refl _) _).drew.grown hgrow1 (by simp) (fun k hk => by simp [Value.ownBlock] at hk)).grown hgrow2 (by have h1 := hgrow1.size; simp at h1; omega) (fun k hk => (OL1.out k hk).1)
                        have O2 := Lib.hid hown2
                        have BB2 := Lib.hid (BEL4.out.trans (B2.mono (by omega)))
                        have HC2 := Lib.hid (HC4.out.below B2)
                        have hs2 := B2.size
                        clear hown1 hown2 hgrow1 hgrow2 hn1 hn2 OL1 B2
                        go_wp2_with (at_builtin; refine wpList_append_own _ rfl (.tmp 105) (.tmp 108) 41 rfl W4.heap.size 43 i0 _ 2 16 Tryd.underlying41 hi hz0 hz1 hz2 rfl (by decide) v2 (0 + p + 1) ([] ++ flat encSp (R.take p) ++ encSp (s1, s2)) rfl O2.out ⟨gr, p * 2, none⟩ 0 (cr - p) (flat encSp (R.drop p)) rfl ?qc1 ?qc2 ?qc3 ?qc4 ?qc5 ?qc6 ?_)
                        case qc1 => have e := flat_length encSp_len (R.drop p); rw [List.length_drop, HR.out] at e; omega
                        case qc2 => exact HC2.out.drop (by rw [HR.out]; omega)
                        case qc3 => exact flat_oneCell encSp_one _
                        case qc4 => unfold maxLen; omega
                        case qc5 => omega
                        case qc6 => omega
                        intro v3 w3 hown3 hgrow3 hn3
                        have OL2 := Lib.hid (World.ownsRow.lt O2.out)
                        have BB3 := Lib.hid (BB2.out.grown hgrow3 (by omega) (fun k hk => by have := (OL2.out k hk).1; omega))
                        have OWN := Lib.hid (show AggsAt 43 2 encSp w3 W4.heap.size v3 (R.take p ++ (s1, s2) :: R.drop p) from by
                          show w3.ownsRow _ _ 2 v3 (R.take p ++ (s1, s2) :: R.drop p).length (flat encSp (R.take p ++ (s1, s2) :: R.drop p))
                          have e1 : (R.take p ++ (s1, s2) :: R.drop p).length = p + 1 + 0 := by
                            rw [List.length_append, List.length_cons, List.length_take, List.length_drop, HR.out]; omega
                          have e2 : flat encSp (R.take p ++ (s1, s2) :: R.drop p) = flat encSp (R.take p) ++ (encSp (s1, s2) ++ flat encSp (R.drop p)) := by
                            rw [flat_append, flat_cons]
                          rw [e1, e2]
                          first | exact hown3 | (have hh := hown3; simp only [Nat.zero_add, List.nil_append, List.append_assoc, Nat.add_zero] at hh; exact hh))
                        have UN := Lib.hid (show IsUnion (xs.take (j + 1)) (R.take p ++ (s1, s2) :: R.drop p) from by
                          rw [take_next hjx, HY.out]
                          exact RI.out.done HU.out (by rw [HR.out]; omega) hbef.out (fun h => absurd h (by rw [HR.out]; omega)))
                        have LN : (R.take p ++ (s1, s2) :: R.drop p).length ≤ j + 1 := by
                          rw [List.length_append, List.length_cons, List.length_take, List.length_drop, HR.out]; omega
                        have BW3 := Lib.hid (BW.out.trans (BB3.out.mono hWs))
                        clear hown3 hgrow3 hn3 OL2
                        go_wp2
                        go_roundw
                        case rel => exact ⟨j + 1, _, by omega, by go_num, BW3.out, UN, LN, OWN.out.mono (by omega)⟩
                        case measure => simp [intOf]; omega)
        · obtain rfl : j = k := by omega
          go_wp2
          go_ret2
          refine ⟨_, U, rfl, ?_, own.out, bel⟩
          have := hu.out
          rwa [List.take_of_length_le (by rw [HN.out]; exact Nat.le_refl _)] at this
end Go.Proofs.YticehhmfbpjamaaDoor.cal
