/- For every number RegisterLimit returns true: a register has at most 64 people. Condition: the table 'classes' holds what the program's text lays (the card ties that). -/
import Derived.Test.YtceidbjjciejhaaDoorPgW
import Derived.Test.YtceidbjjciejhaaDoorPgI
import Derived.Test.YtceidbjjciejhaaDoorRbX
namespace Go.Proofs.YtceidbjjciejhaaDoor.reg
open Go.RowKit lex aggs kit net deck strs

theorem step_appY {P : Program} {w : World} {y : Nat → Option Bool} {o : Oper} {a : Act} {K : Act → World → Prop} {Q : Exit → Act → World → Prop} {E : Prop} (hgd : o.guard = none) (s x : Operand) (t : TypeId)
    (ho : o.op = .call { callee := .builtin .append, args := #[s, x], argTypes := #[t, t] })
    (base : Nat) (e : TypeId) (i : TypeInfo) (z : Value) (size bytes : Nat) (ht : P.underlying t = some (.slice e)) (hi : P.info? e = some i) (hz : i.zero = some z)
    (hsize : i.size = size) (hby : i.bytes = bytes) (hzs : z.cells.size = size) (hsz : 0 < size)
    (v : Value) (n : Nat) (xs : List Value) (hs : a.eval s = v) (hown : w.ownsRow base e size v n xs)
    (ad : Addr) (m c : Nat) (news : List Value) (hx : a.eval x = .slice (some ad) m c) (hl : news.length = m * size) (hnews : ∀ j u, news[j]? = some u → w.cell? (ad.add j) = some u) (h1 : ∀ u ∈ news, u.oneCell' = true)
    (h63 : n + m ≤ maxLen) (hbytes : (n + m) * bytes ≤ 140737488355328) (hbase : base ≤ w.heap.size)
    (h : ∀ v' w', w'.ownsRow base e size v' (n + m) (xs ++ news) → w.grownBy w' v.ownBlock → (v' = .slice none 0 0 ↔ v = .slice none 0 0 ∧ m = 0) → K (a.put o.dst v') w') :
    if Region.wanted o y = true then Oper.wp P o a w K Q else E := by
  have hw : Region.wanted o y = true := by simp [Region.wanted, hgd]
  rw [if_pos hw]
  exact wp_append_own w s x t ho base e i z size bytes ht hi hz hsize hby hzs hsz v n xs hs hown ad m c news hx hl hnews h1 h63 hbytes hbase h
def letters26 : ByteArray := ⟨#[97, 98, 99, 100, 101, 102, 103, 104, 105, 106, 107, 108, 109, 110, 111, 112, 113, 114, 115, 116, 117, 118, 119, 120, 121, 122]⟩
theorem let_at : ∀ j, j < 9 → letters26.extract j (j + 1) = bs [UInt8.ofNat (97 + j)] := by decide +kernel
theorem limN_is (i : Nat) : ({ data := #[80] } : ByteArray) ++ bs [UInt8.ofNat (97 + i / 8)] ++ bs [UInt8.ofNat (97 + i % 8)] = limN i := by
  apply ByteArray.ext
  apply Array.ext'
  rw [ByteArray.data_append, ByteArray.data_append, Array.toList_append, Array.toList_append, bs_data, bs_data]
  show _ = (bs _).data.toList
  rw [bs_data]; rfl
theorem limR_succ (i : Nat) : limR (i + 1) = limR i ++ [limP i] := by unfold limR; rw [List.range_succ, List.map_append]; rfl
/-- while somebody is appended: slot 19 is the new one's row, 20 the new list -/
structure SLim (w : World) (x i : Nat) (v : Value) (done : Nat → Bool) (vs : Nat → Value) (W : World) : Prop where
  below : Below x w W
  size : x + 1 ≤ W.heap.size
  res : done 22 = false → W.heap[x]? = some (.cells #[v] 29 (0, 0))
  old : done 20 = false → AggsAt 32 5 encPn W (x + 1) v (limR i)
  row : done 19 = true → done 20 = false → ∃ q, vs 19 = .slice (some ⟨q, 0, none⟩) 1 1 ∧ W.heap[q]? = some (.cells #[.string (limN i), .int .i64 0, .int .i64 0, .int .i64 0, .int .i64 1] 32 (0, 0)) ∧ x + 1 ≤ q ∧ v.ownBlock ≠ some q
  new : done 20 = true → done 22 = false → AggsAt 32 5 encPn W (x + 1) (vs 20) (limR (i + 1))
  fin : done 22 = true → ∃ a c, W.heap[x]? = some (.cells #[.slice a (i + 1) c] 29 (0, 0)) ∧ AggsAt 32 5 encPn W (x + 1) (.slice a (i + 1) c) (limR (i + 1))
theorem SLim.mark {w : World} {x i : Nat} {v : Value} {done : Nat → Bool} {vs : Nat → Value} {W : World} (h : SLim w x i v done vs W) (j : Nat) (u : Value) (h1 : j ≠ 19) (h2 : j ≠ 20) (h3 : j ≠ 22) : SLim w x i v (fun k => if k = j then true else done k) (inv.upd vs j u) W where
  below := h.below
  size := h.size
  res := fun e => h.res (by simpa [h3.symm] using e)
  old := fun e => h.old (by simpa [h2.symm] using e)
  row := fun e e' => by rw [show inv.upd vs j u 19 = vs 19 from if_neg h1.symm]; exact h.row (by simpa [h1.symm] using e) (by simpa [h2.symm] using e')
  new := fun e e' => by rw [show inv.upd vs j u 20 = vs 20 from if_neg h2.symm]; exact h.new (by simpa [h2.symm] using e) (by simpa [h3.symm] using e')
  fin := fun e => h.fin (by simpa [h3.symm] using e)
theorem SLim.laid {w : World} {x i : Nat} {v : Value} {done : Nat → Bool} {vs : Nat → Value} {W : World} (h : SLim w x i v done vs W) (d20 : done 20 = false) (d22 : done 22 = false) :
    SLim w x i v (fun k => if k = 19 then true else done k) (inv.upd vs 19 (.slice (some ⟨W.heap.size, 0, none⟩) 1 1)) (W.alloc (.cells #[.string (limN i), .int .i64 0, .int .i64 0, .int .i64 0, .int .i64 1] 32)) where
  below := h.below.trans ((below_box W _).mono (by have := h.size; omega))
  size := Nat.le_trans h.size (below_box W _).size
  res := fun e => by rw [(below_box W _).block x (by have := h.size; omega)]; exact h.res d22
  old := fun _ => AggsAt.alloc (h.old d20) _
  row := fun _ _ => ⟨_, rfl, heap_alloc_new W _, h.size, fun e3 => by
    have := (World.ownsRow.lt (h.old d20) _ e3).2
    omega⟩
  new := fun e _ => by have : done 20 = true := e; rw [d20] at this; cases this
  fin := fun e => by have : done 22 = true := e; rw [d22] at this; cases this
theorem SLim.put {w : World} {x i : Nat} {v u : Value} {done : Nat → Bool} {vs : Nat → Value} {W W' : World} (h : SLim w x i v done vs W) (d20 : done 20 = false) (d22 : done 22 = false) (hg : W.grownBy W' v.ownBlock) (hv : AggsAt 32 5 encPn W' (x + 1) u (limR (i + 1))) :
    SLim w x i v (fun k => if k = 20 then true else done k) (inv.upd vs 20 u) W' where
  below := h.below.grown hg (by have := h.size; omega) (fun k hk => by have := (World.ownsRow.lt (h.old d20) k hk).1; omega)
  size := Nat.le_trans h.size hg.size
  res := fun e => by rw [hg.block x (by have := h.size; omega) (fun e2 => by have := (World.ownsRow.lt (h.old d20) _ e2.symm).1; omega)]; exact h.res d22
  old := fun e => by simp at e
  row := fun _ e' => by simp at e'
  new := fun _ _ => hv
  fin := fun e => by have : done 22 = true := e; rw [d22] at this; cases this
theorem SLim.stored {w : World} {x i : Nat} {v u : Value} {done : Nat → Bool} {vs : Nat → Value} {W : World} {a : Option Addr} {c : Nat} (h : SLim w x i v done vs W) (d20 : done 20 = true) (d22 : done 22 = false) (hv : vs 20 = .slice a (i + 1) c) :
    SLim w x i v (fun k => if k = 22 then true else done k) (inv.upd vs 22 u) (W.setCell ⟨x, 0, none⟩ (.slice a (i + 1) c)) := by
  have gs : W.grownBy (W.setCell ⟨x, 0, none⟩ (.slice a (i + 1) c)) (some x) := gb_set _ (gb_refl W _)
  have hi := h.new d20 d22
  rw [hv] at hi
  exact {
    below := h.below.setCell (p := ⟨x, 0, none⟩) (Nat.le_refl _) _
    size := Nat.le_trans h.size gs.size
    res := fun e => by simp at e
    old := fun e => by have : done 20 = false := e; rw [d20] at this; cases this
    row := fun _ e' => by have : done 20 = false := e'; rw [d20] at this; cases this
    new := fun _ e' => by simp at e'
    fin := fun _ => ⟨a, c, set_at (i := 0) (.slice a (i + 1) c) (h.res d22), hi.grown gs (fun k hk => by cases hk; omega)⟩ }
def DLi (x i n c J M : Nat) (a : Option Addr) (s8 s9 s16 nm : ByteArray) : Nat → Value → World → Prop
  | 0, v, _ => v = .pointer (some ⟨x, 0, none⟩)
  | 1, v, _ => v = .slice a n c
  | 2, v, _ => v = .string letters26
  | 3, v, _ => v = .int .i64 (i : Int)
  | 4, v, _ => v = .int .i64 (J : Int)
  | 5, v, _ => v = .int .i64 (i : Int)
  | 6, v, _ => v = .int .i64 (J : Int)
  | 7, v, _ => v = .int .i64 ((J : Int) + 1)
  | 8, v, _ => v = .string s8
  | 9, v, _ => v = .string s9
  | 10, v, _ => v = .string letters26
  | 11, v, _ => v = .int .i64 (i : Int)
  | 12, v, _ => v = .int .i64 (M : Int)
  | 13, v, _ => v = .int .i64 (i : Int)
  | 14, v, _ => v = .int .i64 (M : Int)
  | 15, v, _ => v = .int .i64 ((M : Int) + 1)
  | 16, v, _ => v = .string s16
  | 17, v, _ => v = .string nm
  | 18, v, _ => v = .agg #[.string nm, .int .i64 0, .int .i64 0, .int .i64 0, .int .i64 1]
  | 21, v, _ => v = .pointer (some ⟨x, 0, none⟩)
  | _, _, _ => True
theorem DLi.kept {x i n c J M : Nat} {a : Option Addr} {s8 s9 s16 nm : ByteArray} {W W' : World} : ∀ j v, DLi x i n c J M a s8 s9 s16 nm j v W → DLi x i n c J M a s8 s9 s16 nm j v W'
  | 0, _, h | 1, _, h | 2, _, h | 3, _, h | 4, _, h | 5, _, h | 6, _, h | 7, _, h | 8, _, h | 9, _, h | 10, _, h | 11, _, h | 12, _, h | 13, _, h | 14, _, h | 15, _, h | 16, _, h | 17, _, h | 18, _, h | 19, _, h | 20, _, h | 21, _, h | 22, _, h | _ + 23, _, h => h
set_option maxRecDepth 100000 in
set_option maxHeartbeats 8000000 in
theorem limit_walk (k : Int) (w : World) (_k0 : 0 ≤ k) (_k1 : k ≤ 255) (h : HasClasses w) :
    Calls Tryd.prog 6 #[.int .u8 k] w fun e w' => e = .returned (.bool true) ∧ Below w.heap.size w w' := by
  have H0 := Lib.hid h
  obtain ⟨i0, hi, hz0, hz1, hz2⟩ := info_parts infoPn
  have hz := heap_alloc_new w (.cells #[.slice none 0 0] 29)
  have bx := below_box w (.cells #[.slice none 0 0] 29)
  obtain ⟨C, hC⟩ : ∃ C : Nat, 63 + k % 3 = (C : Int) := ⟨(63 + k % 3).toNat, by omega⟩
  have hC0 : 63 ≤ C := by omega
  have hC1 : C ≤ 65 := by omega
  clear h
  go_enter Tryd.func6, Tryd.ntmps6
  go_wp2_with fail
  obtain ⟨x, hx⟩ : ∃ x, w.heap.size = x := ⟨_, rfl⟩
  obtain ⟨W1, hW1⟩ : ∃ W, w.alloc (.cells #[.slice none 0 0] 29) = W := ⟨_, rfl⟩
  have hs1 : x + 1 ≤ W1.heap.size := by rw [← hW1, ← hx, World.size_alloc]; exact Nat.le_refl _
  rw [hW1] at hz bx ⊢
  rw [hx] at hz bx ⊢
  (try rw [hC])
  have HZ := Lib.hid hz
  have BX := Lib.hid bx
  have HX := Lib.hid hx
  clear hW1 hz bx hC _k0 _k1 hx
  go_loopw [6] (fun s wr => ∃ (i : Nat) (a : Option Addr) (c : Nat), i ≤ C ∧ s = .int .i64 i ∧ Hid (Below x w wr) ∧ Hid (wr.heap[x]? = some (.cells #[.slice a i c] 29 (0, 0))) ∧ Hid (AggsAt 32 5 encPn wr (x + 1) (.slice a i c) (limR i)) ∧ Hid (x + 1 ≤ wr.heap.size)) (fun s _ => C - (intOf s).toNat)
  case atStart => exact ⟨0, none, 0, Nat.zero_le _, rfl, BX.out, HZ.out, AggsAt.nil _ _ _ _ _, hs1⟩
  case round =>
    obtain ⟨i, a, c, hiC, rfl, BL, RX, AG, SZ⟩ := hrel
    by_cases hlt : i < C
    · have hlt2 : (i : Int) < (C : Int) := by omega
      obtain ⟨J, hJ⟩ : ∃ J, i / 8 = J := ⟨_, rfl⟩
      obtain ⟨M, hM⟩ : ∃ M, i % 8 = M := ⟨_, rfl⟩
      have hq8 : ((i : Int) / 8) = (J : Int) := by omega
      have hm8 : ((i : Int) % 8) = (M : Int) := by omega
      have hq8' : ((i : Int).tdiv 8) = (J : Int) := by rw [Int.tdiv_eq_ediv_of_nonneg (by omega)]; exact hq8
      have hm8' : ((i : Int).tmod 8) = (M : Int) := by rw [Int.tmod_eq_emod_of_nonneg (by omega)]; exact hm8
      have hJ9 : J < 9 := by omega
      have hM9 : M < 9 := by omega
      obtain ⟨s8, L8⟩ : ∃ s, letters26.extract J (J + 1) = s := ⟨_, rfl⟩
      obtain ⟨s16, L16⟩ : ∃ s, letters26.extract M (M + 1) = s := ⟨_, rfl⟩
      obtain ⟨s9, L9⟩ : ∃ s, ({ data := #[80] } : ByteArray) ++ s8 = s := ⟨_, rfl⟩
      obtain ⟨nm, L17⟩ : ∃ s, s9 ++ s16 = s := ⟨_, rfl⟩
      have hwJ : IntKind.i64.wrap (J : Int) = (J : Int) := by rw [IntKind.wrap_i64]; omega
      have hwM : IntKind.i64.wrap (M : Int) = (M : Int) := by rw [IntKind.wrap_i64]; omega
      have hwJ1 : IntKind.i64.wrap ((J : Int) + 1) = (J : Int) + 1 := by rw [IntKind.wrap_i64]; omega
      have hwM1 : IntKind.i64.wrap ((M : Int) + 1) = (M : Int) + 1 := by rw [IntKind.wrap_i64]; omega
      have hl26 : letters26.size = 26 := rfl
      have hz8 : s8.size = 1 := by rw [← L8, let_at J hJ9, bs_size]; rfl
      have hz16 : s16.size = 1 := by rw [← L16, let_at M hM9, bs_size]; rfl
      have hz9 : s9.size = 2 := by rw [← L9, ByteArray.size_append, hz8]; rfl
      have bJ0 : (0 : Int) ≤ (J : Int) + 1 := by omega
      have bJ1 : (J : Int) + 1 ≤ 26 := by omega
      have bJ2 : (J : Int) ≤ (J : Int) + 1 := by omega
      have bM0 : (0 : Int) ≤ (M : Int) + 1 := by omega
      have bM1 : (M : Int) + 1 ≤ 26 := by omega
      have bM2 : (M : Int) ≤ (M : Int) + 1 := by omega
      have LN : limN i = nm := by rw [← L17, ← L9, ← L8, ← L16, let_at J hJ9, let_at M hM9, ← hJ, ← hM, limN_is]
      clear hJ hM
      go_wp2_with fail
      have S0 : Hid (∀ yh, SLim w x i (.slice a i c) (fun _ => false) yh wr.drew) := fun yh => {
        below := BL.out.drew
        size := SZ.out
        res := fun _ => RX.out
        old := fun _ => AggsAt.below AG.out (below_drewN (Below.refl _ _) 1)
        row := fun e => by cases e
        new := fun e => by cases e
        fin := fun e => by cases e }
      refine inv.wp_region_inv4 (SLim w x i (.slice a i c)) (DLi x i i c J M a s8 s9 s16 nm) (by kernel_rfl) (by kernel_rfl) (S0.out _) ?steps ?rest
      case steps =>
        refine ⟨fun vs W done hS hD hdn hno hold hcl hme K hK => ?_, fun vs W done hS hD hdn hno hold hcl hme K hK => ?_, fun vs W done hS hD hdn hno hold hcl hme K hK => ?_, fun vs W done hS hD hdn hno hold hcl hme K hK => ?_, fun vs W done hS hD hdn hno hold hcl hme K hK => ?_, fun vs W done hS hD hdn hno hold hcl hme K hK => ?_, fun vs W done hS hD hdn hno hold hcl hme K hK => ?_, fun vs W done hS hD hdn hno hold hcl hme K hK => ?_, fun vs W done hS hD hdn hno hold hcl hme K hK => ?_, fun vs W done hS hD hdn hno hold hcl hme K hK => ?_, fun vs W done hS hD hdn hno hold hcl hme K hK => ?_, fun vs W done hS hD hdn hno hold hcl hme K hK => ?_, fun vs W done hS hD hdn hno hold hcl hme K hK => ?_, fun vs W done hS hD hdn hno hold hcl hme K hK => ?_, fun vs W done hS hD hdn hno hold hcl hme K hK => ?_, fun vs W done hS hD hdn hno hold hcl hme K hK => ?_, fun vs W done hS hD hdn hno hold hcl hme K hK => ?_, fun vs W done hS hD hdn hno hold hcl hme K hK => ?_, fun vs W done hS hD hdn hno hold hcl hme K hK => ?_, fun vs W done hS hD hdn hno hold hcl hme K hK => ?_, fun vs W done hS hD hdn hno hold hcl hme K hK => ?_, fun vs W done hS hD hdn hno hold hcl hme K hK => ?_, fun vs W done hS hD hdn hno hold hcl hme K hK => ?_, trivial⟩
        · clear hold; clear hcl; simp only [inv.dstsL, inv.putT, Nat.reduceAdd, List.set_cons_zero, List.set_cons_succ]
          go_simp
          exact hK _ _ _ (by simp only [inv.dstsL, inv.putT, Nat.reduceAdd, List.set_cons_zero, List.set_cons_succ]; (try rfl)) (hS.mark 0 _ (by decide) (by decide) (by decide)) (rfl) (fun _ _ _ _ h => h)
        · clear hold; simp only [inv.dstsL, inv.putT, Nat.reduceAdd, List.set_cons_zero, List.set_cons_succ]
          have h0 : (vs 0) = .pointer (some ⟨x, 0, none⟩) := hD 0 (by kernel_rfl)
          have d20 := hno 20 (by kernel_rfl)
          have d22 : done 22 = false := Bool.eq_false_iff.2 (fun h => by have := hcl 22 (by decide) h 20 (by kernel_rfl); rw [d20] at this; cases this)
          have c0 := (cell_at (hS.res d22) 0).1
          clear hcl
          rw [h0]
          go_simp
          exact hK _ _ _ (by simp only [inv.dstsL, inv.putT, Nat.reduceAdd, List.set_cons_zero, List.set_cons_succ, h0]; (try rfl)) (hS.mark 1 _ (by decide) (by decide) (by decide)) (rfl) (fun _ _ _ _ h => h)
        · clear hold; clear hcl; simp only [inv.dstsL, inv.putT, Nat.reduceAdd, List.set_cons_zero, List.set_cons_succ]
          go_simp
          exact hK _ _ _ (by simp only [inv.dstsL, inv.putT, Nat.reduceAdd, List.set_cons_zero, List.set_cons_succ]; (try rfl)) (hS.mark 2 _ (by decide) (by decide) (by decide)) (rfl) (fun _ _ _ _ h => h)
        · clear hold; clear hcl; simp only [inv.dstsL, inv.putT, Nat.reduceAdd, List.set_cons_zero, List.set_cons_succ]
          go_simp
          exact hK _ _ _ (by simp only [inv.dstsL, inv.putT, Nat.reduceAdd, List.set_cons_zero, List.set_cons_succ]; (try rfl)) (hS.mark 3 _ (by decide) (by decide) (by decide)) (rfl) (fun _ _ _ _ h => h)
        · clear hold; clear hcl; simp only [inv.dstsL, inv.putT, Nat.reduceAdd, List.set_cons_zero, List.set_cons_succ]
          have h3 : (vs 3) = .int .i64 (i : Int) := hD 3 (by kernel_rfl)
          rw [h3]
          go_simp
          exact hK _ _ _ (by simp only [inv.dstsL, inv.putT, Nat.reduceAdd, List.set_cons_zero, List.set_cons_succ, h3]; (try rfl)) (hS.mark 4 _ (by decide) (by decide) (by decide)) (rfl) (fun _ _ _ _ h => h)
        · clear hold; clear hcl; simp only [inv.dstsL, inv.putT, Nat.reduceAdd, List.set_cons_zero, List.set_cons_succ]
          go_simp
          exact hK _ _ _ (by simp only [inv.dstsL, inv.putT, Nat.reduceAdd, List.set_cons_zero, List.set_cons_succ]; (try rfl)) (hS.mark 5 _ (by decide) (by decide) (by decide)) (rfl) (fun _ _ _ _ h => h)
        · clear hold; clear hcl; simp only [inv.dstsL, inv.putT, Nat.reduceAdd, List.set_cons_zero, List.set_cons_succ]
          have h5 : (vs 5) = .int .i64 (i : Int) := hD 5 (by kernel_rfl)
          rw [h5]
          go_simp
          exact hK _ _ _ (by simp only [inv.dstsL, inv.putT, Nat.reduceAdd, List.set_cons_zero, List.set_cons_succ, h5]; (try rfl)) (hS.mark 6 _ (by decide) (by decide) (by decide)) (rfl) (fun _ _ _ _ h => h)
        · clear hold; clear hcl; simp only [inv.dstsL, inv.putT, Nat.reduceAdd, List.set_cons_zero, List.set_cons_succ]
          have h6 : (vs 6) = .int .i64 (J : Int) := hD 6 (by kernel_rfl)
          rw [h6]
          go_simp
          exact hK _ _ _ (by simp only [inv.dstsL, inv.putT, Nat.reduceAdd, List.set_cons_zero, List.set_cons_succ, h6]; (try rfl)) (hS.mark 7 _ (by decide) (by decide) (by decide)) (rfl) (fun _ _ _ _ h => h)
        · clear hold; clear hcl; simp only [inv.dstsL, inv.putT, Nat.reduceAdd, List.set_cons_zero, List.set_cons_succ]
          have h2 : (vs 2) = .string letters26 := hD 2 (by kernel_rfl)
          have h4 : (vs 4) = .int .i64 (J : Int) := hD 4 (by kernel_rfl)
          have h7 : (vs 7) = .int .i64 ((J : Int) + 1) := hD 7 (by kernel_rfl)
          rw [h2, h4, h7]
          go_simp
          exact hK _ _ _ (by simp only [inv.dstsL, inv.putT, Nat.reduceAdd, List.set_cons_zero, List.set_cons_succ, h2, h4, h7]; (try rfl)) (hS.mark 8 _ (by decide) (by decide) (by decide)) (rfl) (fun _ _ _ _ h => h)
        · clear hold; clear hcl; simp only [inv.dstsL, inv.putT, Nat.reduceAdd, List.set_cons_zero, List.set_cons_succ]
          have h8 : (vs 8) = .string s8 := hD 8 (by kernel_rfl)
          rw [h8]
          go_simp
          exact hK _ _ _ (by simp only [inv.dstsL, inv.putT, Nat.reduceAdd, List.set_cons_zero, List.set_cons_succ, h8]; (try rfl)) (hS.mark 9 _ (by decide) (by decide) (by decide)) (rfl) (fun _ _ _ _ h => h)
        · clear hold; clear hcl; simp only [inv.dstsL, inv.putT, Nat.reduceAdd, List.set_cons_zero, List.set_cons_succ]
          go_simp
          exact hK _ _ _ (by simp only [inv.dstsL, inv.putT, Nat.reduceAdd, List.set_cons_zero, List.set_cons_succ]; (try rfl)) (hS.mark 10 _ (by decide) (by decide) (by decide)) (rfl) (fun _ _ _ _ h => h)
        · clear hold; clear hcl; simp only [inv.dstsL, inv.putT, Nat.reduceAdd, List.set_cons_zero, List.set_cons_succ]
          go_simp
          exact hK _ _ _ (by simp only [inv.dstsL, inv.putT, Nat.reduceAdd, List.set_cons_zero, List.set_cons_succ]; (try rfl)) (hS.mark 11 _ (by decide) (by decide) (by decide)) (rfl) (fun _ _ _ _ h => h)
        · clear hold; clear hcl; simp only [inv.dstsL, inv.putT, Nat.reduceAdd, List.set_cons_zero, List.set_cons_succ]
          have h11 : (vs 11) = .int .i64 (i : Int) := hD 11 (by kernel_rfl)
          rw [h11]
          go_simp
          exact hK _ _ _ (by simp only [inv.dstsL, inv.putT, Nat.reduceAdd, List.set_cons_zero, List.set_cons_succ, h11]; (try rfl)) (hS.mark 12 _ (by decide) (by decide) (by decide)) (rfl) (fun _ _ _ _ h => h)
        · clear hold; clear hcl; simp only [inv.dstsL, inv.putT, Nat.reduceAdd, List.set_cons_zero, List.set_cons_succ]
          go_simp
          exact hK _ _ _ (by simp only [inv.dstsL, inv.putT, Nat.reduceAdd, List.set_cons_zero, List.set_cons_succ]; (try rfl)) (hS.mark 13 _ (by decide) (by decide) (by decide)) (rfl) (fun _ _ _ _ h => h)
        · clear hold; clear hcl; simp only [inv.dstsL, inv.putT, Nat.reduceAdd, List.set_cons_zero, List.set_cons_succ]
          have h13 : (vs 13) = .int .i64 (i : Int) := hD 13 (by kernel_rfl)
          rw [h13]
          go_simp
          exact hK _ _ _ (by simp only [inv.dstsL, inv.putT, Nat.reduceAdd, List.set_cons_zero, List.set_cons_succ, h13]; (try rfl)) (hS.mark 14 _ (by decide) (by decide) (by decide)) (rfl) (fun _ _ _ _ h => h)
        · clear hold; clear hcl; simp only [inv.dstsL, inv.putT, Nat.reduceAdd, List.set_cons_zero, List.set_cons_succ]
          have h14 : (vs 14) = .int .i64 (M : Int) := hD 14 (by kernel_rfl)
          rw [h14]
          go_simp
          exact hK _ _ _ (by simp only [inv.dstsL, inv.putT, Nat.reduceAdd, List.set_cons_zero, List.set_cons_succ, h14]; (try rfl)) (hS.mark 15 _ (by decide) (by decide) (by decide)) (rfl) (fun _ _ _ _ h => h)
        · clear hold; clear hcl; simp only [inv.dstsL, inv.putT, Nat.reduceAdd, List.set_cons_zero, List.set_cons_succ]
          have h10 : (vs 10) = .string letters26 := hD 10 (by kernel_rfl)
          have h12 : (vs 12) = .int .i64 (M : Int) := hD 12 (by kernel_rfl)
          have h15 : (vs 15) = .int .i64 ((M : Int) + 1) := hD 15 (by kernel_rfl)
          rw [h10, h12, h15]
          go_simp
          exact hK _ _ _ (by simp only [inv.dstsL, inv.putT, Nat.reduceAdd, List.set_cons_zero, List.set_cons_succ, h10, h12, h15]; (try rfl)) (hS.mark 16 _ (by decide) (by decide) (by decide)) (rfl) (fun _ _ _ _ h => h)
        · clear hold; clear hcl; simp only [inv.dstsL, inv.putT, Nat.reduceAdd, List.set_cons_zero, List.set_cons_succ]
          have h9 : (vs 9) = .string s9 := hD 9 (by kernel_rfl)
          have h16 : (vs 16) = .string s16 := hD 16 (by kernel_rfl)
          rw [h9, h16]
          go_simp
          exact hK _ _ _ (by simp only [inv.dstsL, inv.putT, Nat.reduceAdd, List.set_cons_zero, List.set_cons_succ, h9, h16]; (try rfl)) (hS.mark 17 _ (by decide) (by decide) (by decide)) (rfl) (fun _ _ _ _ h => h)
        · clear hold; clear hcl; simp only [inv.dstsL, inv.putT, Nat.reduceAdd, List.set_cons_zero, List.set_cons_succ]
          have h17 : (vs 17) = .string nm := hD 17 (by kernel_rfl)
          rw [h17]
          go_simp
          exact hK _ _ _ (by simp only [inv.dstsL, inv.putT, Nat.reduceAdd, List.set_cons_zero, List.set_cons_succ, h17]; (try rfl)) (hS.mark 18 _ (by decide) (by decide) (by decide)) (rfl) (fun _ _ _ _ h => h)
        · clear hold; simp only [inv.dstsL, inv.putT, Nat.reduceAdd, List.set_cons_zero, List.set_cons_succ]
          have h18 : (vs 18) = .agg #[.string nm, .int .i64 0, .int .i64 0, .int .i64 0, .int .i64 1] := hD 18 (by kernel_rfl)
          have d20 := hno 20 (by kernel_rfl)
          have d22 : done 22 = false := Bool.eq_false_iff.2 (fun h => by have := hcl 22 (by decide) h 20 (by kernel_rfl); rw [d20] at this; cases this)
          clear hcl
          rw [h18]
          go_simp
          exact hK _ _ _ (by simp only [inv.dstsL, inv.putT, Nat.reduceAdd, List.set_cons_zero, List.set_cons_succ, h18]; (try rfl)) (by have q := hS.laid d20 d22; rw [LN] at q; exact q) (trivial) (fun j v _ _ => (DLi.kept) j v)
        · clear hold; simp only [inv.dstsL, inv.putT, Nat.reduceAdd, List.set_cons_zero, List.set_cons_succ]
          have h1 : (vs 1) = .slice a i c := hD 1 (by kernel_rfl)
          have d20 : done 20 = false := hme
          have d22 := hno 22 (by kernel_rfl)
          clear hcl
          obtain ⟨q, h19q, hqb, hqx, hqn⟩ := hS.row (hdn 19 (by kernel_rfl)) d20
          have hown : W.ownsRow (x + 1) 32 5 (.slice a i c) i (flat encPn (limR i)) := by have h := hS.old d20; have h : W.ownsRow _ _ 5 _ (limR i).length _ := h; rw [limR_length] at h; exact h
          refine step_appY (by rfl) (.tmp 19) (.tmp 37) 27 (by rfl) (x + 1) 32 i0 _ 5 48 Tryd.underlying27 hi hz0 hz1 hz2 rfl (by decide) (.slice a i c) i (flat encPn (limR i)) (by exact h1) hown ⟨q, 0, none⟩ 1 1 (encPn (limP i)) (by exact h19q) rfl (fun j u hu => by rw [Go.WideShapes.add_plain, Nat.zero_add, (cell_at hqb j).1]; simpa [encPn, limP] using hu) (encPn_one _) (by unfold maxLen; omega) (by omega) hS.size ?_
          intro v' w' hown' hg _
          have AG : AggsAt 32 5 encPn w' (x + 1) v' (limR (i + 1)) := by show w'.ownsRow _ _ 5 v' _ _; rw [limR_length, limR_succ, flat_append, flat_one]; exact hown'
          exact hK _ _ _ (by simp only [inv.dstsL, inv.putT, Nat.reduceAdd, List.set_cons_zero, List.set_cons_succ]; (try rfl)) (hS.put d20 d22 hg AG) (trivial) (fun j v _ _ => (DLi.kept) j v)
        · clear hold; clear hcl; simp only [inv.dstsL, inv.putT, Nat.reduceAdd, List.set_cons_zero, List.set_cons_succ]
          go_simp
          exact hK _ _ _ (by simp only [inv.dstsL, inv.putT, Nat.reduceAdd, List.set_cons_zero, List.set_cons_succ]; (try rfl)) (hS.mark 21 _ (by decide) (by decide) (by decide)) (rfl) (fun _ _ _ _ h => h)
        · clear hold; simp only [inv.dstsL, inv.putT, Nat.reduceAdd, List.set_cons_zero, List.set_cons_succ]
          have h21 : (vs 21) = .pointer (some ⟨x, 0, none⟩) := hD 21 (by kernel_rfl)
          have d20 : done 20 = true := hdn 20 (by kernel_rfl)
          have d22 : done 22 = false := hme
          clear hcl
          obtain ⟨a2, c2, h202⟩ : ∃ a2 c2, vs 20 = .slice a2 (i + 1) c2 := by obtain ⟨a9, c9, e, -⟩ := AggsAt.length (hS.new d20 d22) encPn_len; exact ⟨a9, c9, by rw [e, limR_length]⟩
          obtain ⟨c0, f0⟩ := cell_at (hS.res d22) 0
          rw [h202, h21]
          go_simp
          exact hK undef _ _ (by simp only [inv.dstsL, inv.putT, Nat.reduceAdd, List.set_cons_zero, List.set_cons_succ, h21, h202]; (try rfl)) (hS.stored d20 d22 h202) (by first | rfl | trivial) (fun j v _ _ => DLi.kept j v)
      case rest =>
        intro vs W done hdone hS hD
        obtain ⟨a9, c9, h9, g9⟩ := hS.fin (hdone 22 (by decide))
        have BL9 := Lib.hid hS.below
        have RX9 := Lib.hid h9
        have AG9 := Lib.hid g9
        have SZ9 := Lib.hid hS.size
        simp only [inv.dstsL, inv.putT, Nat.reduceAdd, List.set_cons_zero, List.set_cons_succ]
        generalize vs 0 = y0, vs 1 = y1, vs 2 = y2, vs 3 = y3, vs 4 = y4, vs 5 = y5, vs 6 = y6, vs 7 = y7, vs 8 = y8, vs 9 = y9, vs 10 = y10, vs 11 = y11, vs 12 = y12, vs 13 = y13, vs 14 = y14, vs 15 = y15, vs 16 = y16, vs 17 = y17, vs 18 = y18, vs 19 = y19, vs 20 = y20, vs 21 = y21 at *
        clear hD hdone hS h9 g9
        go_wp2
        go_roundw
        case rel => exact ⟨i + 1, a9, c9, by omega, by go_num, BL9, RX9, AG9, SZ9⟩
        case measure => simp [intOf]; omega
    · obtain rfl : i = C := by omega
      have T1 : decide ((i : Int) < (i : Int)) = false := decide_eq_false (by omega)
      obtain ⟨a2, c2, e2, r2⟩ := reg_of AG.out (fun y hy => by
        obtain ⟨j, _, rfl⟩ := List.mem_map.1 hy
        show (bs _).size ≤ maxLen
        rw [bs_size]; unfold maxLen; simp)
      rw [limR_length] at e2 r2
      injection e2 with e3 _ e4
      subst e3; subst e4
      have hcl := H0.out.below (by rw [HX.out]; exact BL.out)
      have SK : SkI (limR i) := fun y hy => by
        obtain ⟨j, _, rfl⟩ := List.mem_map.1 hy
        exact ⟨by show _ ≤ (0 : Int); decide, by show (0 : Int) ≤ _; decide⟩
      have AD := add_is a i c (limR i) limA wr r2 hcl SK (by show (bs [65]).size ≤ maxLen; rw [bs_size]; decide) ⟨by decide, by decide⟩
      have hA : pnV limA = .agg #[.string ⟨#[65]⟩, .int .i64 0, .int .i64 0, .int .i64 0, .int .i64 9] := rfl
      rw [hA] at AD
      have X1 : Hid (Bx wr x a i c (limR i)) := ⟨⟨(cell_at RX.out 0).1, lt_of_block RX.out⟩, r2⟩
      have K : Hid (HasClasses wr ∧ Below x w wr) := ⟨hcl, BL.out⟩
      have KS := Lib.hid SZ.out
      have SKX := Lib.hid SK
      obtain ⟨x1, -⟩ := X1.out.one
      clear hA hcl SK r2 AG RX BL SZ
      rcases (show i = 63 ∨ i = 64 ∨ i = 65 by omega) with rfl | rfl | rfl
      · have hadd : addP (limR 63) limA = (limA :: limR 63, 0) := lim_add (by decide)
        rw [hadd] at AD
        have hchk : chkP (limR 63) = 0 := chkP_zero.2 (lim_ok (by decide))
        go_wp2_with fail
        refine AD.mono ?_; rintro e w2 ⟨a7, N7, c7, rfl, r7, b7⟩
        have K : Hid (HasClasses _ ∧ Below x w _) := ⟨K.out.1.below b7, K.out.2.trans (b7.mono (by have := KS.out; omega))⟩
        have KS := Lib.hid (Nat.le_trans KS.out b7.size)
        have X1 := Lib.hid (X1.out.below b7)
        obtain ⟨V7, hV7⟩ : ∃ W, (w2.alloc (.cells #[.slice none 0 0] 29)).setCell ⟨w2.heap.size, 0, none⟩ (.slice a7 N7 c7) = W := ⟨_, rfl⟩
        obtain ⟨o7, bb7, -, c0, z0⟩ := boxed w2 a7 N7 c7 V7 hV7
        have X7 : Hid (Bx V7 w2.heap.size a7 N7 c7 _) := ⟨o7, r7.below bb7⟩
        have K : Hid (HasClasses _ ∧ Below x w _) := ⟨K.out.1.below bb7, K.out.2.trans (bb7.mono (by have := KS.out; omega))⟩
        have KS := Lib.hid (Nat.le_trans KS.out bb7.size)
        have X1 := Lib.hid (X1.out.below bb7)
        obtain ⟨g7, hg7⟩ : ∃ b, w2.heap.size = b := ⟨_, rfl⟩
        rw [hg7] at X7 hV7 c0 z0
        have hN7 := X7.out.reg.len
        obtain rfl : N7 = 64 := by rw [← hN7, List.length_cons, limR_length]
        clear o7 bb7 r7 b7 AD x1 hadd
        obtain ⟨x1, -⟩ := X1.out.one
        obtain ⟨x7, -⟩ := X7.out.one
        have CK := check_is a 63 c (limR 63) 0 V7 X1.out.reg K.out.1 SKX.out hchk
        go_wp2_with fail
        first | rw [hV7] | skip
        clear hV7 c0 z0 hg7
        refine CK.mono ?_; rintro e w4 ⟨rfl, b4⟩
        have K : Hid (HasClasses _ ∧ Below x w _) := ⟨K.out.1.below b4, K.out.2.trans (b4.mono (by have := KS.out; omega))⟩
        have KS := Lib.hid (Nat.le_trans KS.out b4.size)
        have X1 := Lib.hid (X1.out.below b4)
        have X7 := Lib.hid (X7.out.below b4)
        clear b4 x1 x7
        obtain ⟨x7, -⟩ := X7.out.one
        obtain ⟨g9, o9, hae, hg9, hc9⟩ := X7.out.reg.rin.some (by simp)
        subst hae
        obtain ⟨d0, -⟩ := cells_pn hc9 0 (by simp)
        rw [Nat.zero_mul, Nat.add_zero, List.getElem_cons_zero] at d0
        have d1 : w4.cell? ⟨g9, o9, none⟩ = some (.string ⟨#[65]⟩) := d0
        clear hc9 hg9 d0
        go_wp2_with fail
        refine (awake_is _ K.out.1).mono ?_; rintro e w5 ⟨rfl, b5⟩
        have K : Hid (HasClasses _ ∧ Below x w _) := ⟨K.out.1.below b5, K.out.2.trans (b5.mono (by have := KS.out; omega))⟩
        have KS := Lib.hid (Nat.le_trans KS.out b5.size)
        have X1 := Lib.hid (X1.out.below b5)
        clear b5
        go_wp2
        go_ret
        exact ⟨rfl, by rw [HX.out]; exact K.out.2⟩
      · have hadd : addP (limR 64) limA = ([], 1) := lim_add_full
        rw [hadd] at AD
        have hchk : chkP (limR 64) = 0 := chkP_zero.2 (lim_ok (by decide))
        go_wp2_with fail
        refine AD.mono ?_; rintro e w2 ⟨a7, N7, c7, rfl, r7, b7⟩
        have K : Hid (HasClasses _ ∧ Below x w _) := ⟨K.out.1.below b7, K.out.2.trans (b7.mono (by have := KS.out; omega))⟩
        have KS := Lib.hid (Nat.le_trans KS.out b7.size)
        have X1 := Lib.hid (X1.out.below b7)
        obtain ⟨V7, hV7⟩ : ∃ W, (w2.alloc (.cells #[.slice none 0 0] 29)).setCell ⟨w2.heap.size, 0, none⟩ (.slice a7 N7 c7) = W := ⟨_, rfl⟩
        obtain ⟨o7, bb7, -, c0, z0⟩ := boxed w2 a7 N7 c7 V7 hV7
        have X7 : Hid (Bx V7 w2.heap.size a7 N7 c7 _) := ⟨o7, r7.below bb7⟩
        have K : Hid (HasClasses _ ∧ Below x w _) := ⟨K.out.1.below bb7, K.out.2.trans (bb7.mono (by have := KS.out; omega))⟩
        have KS := Lib.hid (Nat.le_trans KS.out bb7.size)
        have X1 := Lib.hid (X1.out.below bb7)
        obtain ⟨g7, hg7⟩ : ∃ b, w2.heap.size = b := ⟨_, rfl⟩
        rw [hg7] at X7 hV7 c0 z0
        have hN7 := X7.out.reg.len
        obtain rfl : N7 = 0 := hN7.symm
        clear o7 bb7 r7 b7 AD x1 hadd
        obtain ⟨x1, -⟩ := X1.out.one
        obtain ⟨x7, -⟩ := X7.out.one
        have CK := check_is a 64 c (limR 64) 0 V7 X1.out.reg K.out.1 SKX.out hchk
        go_wp2_with fail
        first | rw [hV7] | skip
        clear hV7 c0 z0 hg7
        refine CK.mono ?_; rintro e w4 ⟨rfl, b4⟩
        have K : Hid (HasClasses _ ∧ Below x w _) := ⟨K.out.1.below b4, K.out.2.trans (b4.mono (by have := KS.out; omega))⟩
        have KS := Lib.hid (Nat.le_trans KS.out b4.size)
        have X1 := Lib.hid (X1.out.below b4)
        have X7 := Lib.hid (X7.out.below b4)
        clear b4 x1 x7
        obtain ⟨x7, -⟩ := X7.out.one
        go_wp2_with fail
        refine (awake_is _ K.out.1).mono ?_; rintro e w5 ⟨rfl, b5⟩
        have K : Hid (HasClasses _ ∧ Below x w _) := ⟨K.out.1.below b5, K.out.2.trans (b5.mono (by have := KS.out; omega))⟩
        have KS := Lib.hid (Nat.le_trans KS.out b5.size)
        have X1 := Lib.hid (X1.out.below b5)
        clear b5
        go_wp2
        go_ret
        exact ⟨rfl, by rw [HX.out]; exact K.out.2⟩
      · have hadd : addP (limR 65) limA = ([], 1) := lim_add_over
        rw [hadd] at AD
        have hchk : chkP (limR 65) = 1 := lim_over
        go_wp2_with fail
        refine AD.mono ?_; rintro e w2 ⟨a7, N7, c7, rfl, r7, b7⟩
        have K : Hid (HasClasses _ ∧ Below x w _) := ⟨K.out.1.below b7, K.out.2.trans (b7.mono (by have := KS.out; omega))⟩
        have KS := Lib.hid (Nat.le_trans KS.out b7.size)
        have X1 := Lib.hid (X1.out.below b7)
        obtain ⟨V7, hV7⟩ : ∃ W, (w2.alloc (.cells #[.slice none 0 0] 29)).setCell ⟨w2.heap.size, 0, none⟩ (.slice a7 N7 c7) = W := ⟨_, rfl⟩
        obtain ⟨o7, bb7, -, c0, z0⟩ := boxed w2 a7 N7 c7 V7 hV7
        have X7 : Hid (Bx V7 w2.heap.size a7 N7 c7 _) := ⟨o7, r7.below bb7⟩
        have K : Hid (HasClasses _ ∧ Below x w _) := ⟨K.out.1.below bb7, K.out.2.trans (bb7.mono (by have := KS.out; omega))⟩
        have KS := Lib.hid (Nat.le_trans KS.out bb7.size)
        have X1 := Lib.hid (X1.out.below bb7)
        obtain ⟨g7, hg7⟩ : ∃ b, w2.heap.size = b := ⟨_, rfl⟩
        rw [hg7] at X7 hV7 c0 z0
        have hN7 := X7.out.reg.len
        obtain rfl : N7 = 0 := hN7.symm
        clear o7 bb7 r7 b7 AD x1 hadd
        obtain ⟨x1, -⟩ := X1.out.one
        obtain ⟨x7, -⟩ := X7.out.one
        have CK := check_is a 65 c (limR 65) 1 V7 X1.out.reg K.out.1 SKX.out hchk
        go_wp2_with fail
        first | rw [hV7] | skip
        clear hV7 c0 z0 hg7
        refine CK.mono ?_; rintro e w4 ⟨rfl, b4⟩
        have K : Hid (HasClasses _ ∧ Below x w _) := ⟨K.out.1.below b4, K.out.2.trans (b4.mono (by have := KS.out; omega))⟩
        have KS := Lib.hid (Nat.le_trans KS.out b4.size)
        have X1 := Lib.hid (X1.out.below b4)
        have X7 := Lib.hid (X7.out.below b4)
        clear b4 x1 x7
        obtain ⟨x7, -⟩ := X7.out.one
        go_wp2_with fail
        refine (awake_is _ K.out.1).mono ?_; rintro e w5 ⟨rfl, b5⟩
        have K : Hid (HasClasses _ ∧ Below x w _) := ⟨K.out.1.below b5, K.out.2.trans (b5.mono (by have := KS.out; omega))⟩
        have KS := Lib.hid (Nat.le_trans KS.out b5.size)
        have X1 := Lib.hid (X1.out.below b5)
        clear b5
        go_wp2
        go_ret
        exact ⟨rfl, by rw [HX.out]; exact K.out.2⟩
end Go.Proofs.YtceidbjjciejhaaDoor.reg
