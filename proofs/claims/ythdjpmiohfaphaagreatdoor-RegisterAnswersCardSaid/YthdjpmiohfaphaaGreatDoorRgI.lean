/- The walk of the reference of layer 5: Add. It computes what the plain facts say. No condition. -/
import Derived.Test.YthdjpmiohfaphaaGreatDoorRgP
import Derived.Test.YthdjpmiohfaphaaGreatDoorPgC
import Derived.Deep.RegionHeld3
import Derived.Deep.AppendLies
import Derived.Laws.AppendOwnNone
namespace Go.Proofs.YthdjpmiohfaphaaGreatDoor.reg
open Go.RowKit lex aggs kit net deck

theorem ins_pos (p : Pn) (ps : List Pn) : ins p ps = ps.take (pos ps p.nm) ++ p :: ps.drop (pos ps p.nm) := by
  unfold ins pos
  have h1 : ∀ l : List Pn, l.take (l.takeWhile fun x => lt x.nm p.nm).length = l.takeWhile fun x => lt x.nm p.nm := fun l => by
    induction l with
    | nil => rfl
    | cons a r ih =>
      rw [List.takeWhile_cons]
      cases lt a.nm p.nm with
      | true => simpa using ih
      | false => rfl
  have h2 : ∀ l : List Pn, l.drop (l.takeWhile fun x => lt x.nm p.nm).length = l.dropWhile fun x => lt x.nm p.nm := fun l => by
    induction l with
    | nil => rfl
    | cons a r ih =>
      rw [List.takeWhile_cons, List.dropWhile_cons]
      cases lt a.nm p.nm with
      | true => simpa using ih
      | false => rfl
  rw [h1, h2]
theorem step_app {P : Program} {w : World} {ops : Array Oper} {o : Oper} {a : Act} {K : Act → World → Prop} {Q : Exit → Act → World → Prop} {E : Prop} (hgd : o.guard = none) (s x : Operand) (t : TypeId)
    (ho : o.op = .call { callee := .builtin .append, args := #[s, x], argTypes := #[t, t] })
    (base : Nat) (e : TypeId) (i : TypeInfo) (z : Value) (size bytes : Nat) (ht : P.underlying t = some (.slice e)) (hi : P.info? e = some i) (hz : i.zero = some z)
    (hsize : i.size = size) (hby : i.bytes = bytes) (hzs : z.cells.size = size) (hsz : 0 < size)
    (v : Value) (n : Nat) (xs : List Value) (hs : a.eval s = v) (hown : w.ownsRow base e size v n xs)
    (ad : Addr) (m c : Nat) (news : List Value) (hx : a.eval x = .slice (some ad) m c) (hl : news.length = m * size) (hnews : ∀ j u, news[j]? = some u → w.cell? (ad.add j) = some u) (h1 : ∀ u ∈ news, u.oneCell' = true)
    (h63 : n + m ≤ maxLen) (hbytes : (n + m) * bytes ≤ 140737488355328) (hbase : base ≤ w.heap.size)
    (h : ∀ v' w', w'.ownsRow base e size v' (n + m) (xs ++ news) → w.grownBy w' v.ownBlock → (v' = .slice none 0 0 ↔ v = .slice none 0 0 ∧ m = 0) → K (a.put o.dst v') w') :
    if Region.wanted o (yielded ops a.tmps) = true then Oper.wp P o a w K Q else E := by
  have hw : Region.wanted o (yielded ops a.tmps) = true := by simp [Region.wanted, hgd]
  rw [if_pos hw]
  exact wp_append_own w s x t ho base e i z size bytes ht hi hz hsize hby hzs hsz v n xs hs hown ad m c news hx hl hnews h1 h63 hbytes hbase h
theorem step_app_none {P : Program} {w : World} {ops : Array Oper} {o : Oper} {a : Act} {K : Act → World → Prop} {Q : Exit → Act → World → Prop} {E : Prop} (hgd : o.guard = none) (s x : Operand) (t : TypeId)
    (ho : o.op = .call { callee := .builtin .append, args := #[s, x], argTypes := #[t, t] })
    (base : Nat) (e : TypeId) (i : TypeInfo) (size : Nat) (ht : P.underlying t = some (.slice e)) (hi : P.info? e = some i)
    (v : Value) (n : Nat) (xs : List Value) (hs : a.eval s = v) (hown : w.ownsRow base e size v n xs) (hx : a.eval x = .slice none 0 0) (h : K (a.put o.dst v) w) :
    if Region.wanted o (yielded ops a.tmps) = true then Oper.wp P o a w K Q else E := by
  have hw : Region.wanted o (yielded ops a.tmps) = true := by simp [Region.wanted, hgd]
  rw [if_pos hw]
  have hrun := run_append_owned_none (P := P) (w := w) base t o.type e i size ht hi v n xs hown
  unfold Oper.wp
  simp [execOp, ho, resolve, invoke, builtin, hs, hx, hrun, Result.andThen]
  exact h
theorem six_of {W W' : World} {x : Nat} {u : Value} {p : Pn} (h : W.cell? ⟨x, 0, none⟩ = some u ∧ W.cell? ⟨x + 1, 0, none⟩ = some (.string p.nm) ∧ W.cell? ⟨x + 1, 1, none⟩ = some (.int .i64 p.co) ∧ W.cell? ⟨x + 1, 2, none⟩ = some (.int .i64 p.sk) ∧ W.cell? ⟨x + 1, 3, none⟩ = some (.int .i64 p.fr) ∧ W.cell? ⟨x + 1, 4, none⟩ = some (.int .i64 p.un)) (e0 : W'.heap[x]? = W.heap[x]?) (e1 : W'.heap[x + 1]? = W.heap[x + 1]?) : W'.cell? ⟨x, 0, none⟩ = some u ∧ W'.cell? ⟨x + 1, 0, none⟩ = some (.string p.nm) ∧ W'.cell? ⟨x + 1, 1, none⟩ = some (.int .i64 p.co) ∧ W'.cell? ⟨x + 1, 2, none⟩ = some (.int .i64 p.sk) ∧ W'.cell? ⟨x + 1, 3, none⟩ = some (.int .i64 p.fr) ∧ W'.cell? ⟨x + 1, 4, none⟩ = some (.int .i64 p.un) := by
  obtain ⟨h0, h1, h2, h3, h4, h5⟩ := h
  exact ⟨(World.cell?_of_block (a := ⟨x, 0, none⟩) e0).trans h0, (World.cell?_of_block (a := ⟨x + 1, 0, none⟩) e1).trans h1, (World.cell?_of_block (a := ⟨x + 1, 1, none⟩) e1).trans h2, (World.cell?_of_block (a := ⟨x + 1, 2, none⟩) e1).trans h3, (World.cell?_of_block (a := ⟨x + 1, 3, none⟩) e1).trans h4, (World.cell?_of_block (a := ⟨x + 1, 4, none⟩) e1).trans h5⟩
theorem six_alloc {W : World} {x : Nat} {u : Value} {p : Pn} (h : W.cell? ⟨x, 0, none⟩ = some u ∧ W.cell? ⟨x + 1, 0, none⟩ = some (.string p.nm) ∧ W.cell? ⟨x + 1, 1, none⟩ = some (.int .i64 p.co) ∧ W.cell? ⟨x + 1, 2, none⟩ = some (.int .i64 p.sk) ∧ W.cell? ⟨x + 1, 3, none⟩ = some (.int .i64 p.fr) ∧ W.cell? ⟨x + 1, 4, none⟩ = some (.int .i64 p.un)) (o : Obj) : (W.alloc o).cell? ⟨x, 0, none⟩ = some u ∧ (W.alloc o).cell? ⟨x + 1, 0, none⟩ = some (.string p.nm) ∧ (W.alloc o).cell? ⟨x + 1, 1, none⟩ = some (.int .i64 p.co) ∧ (W.alloc o).cell? ⟨x + 1, 2, none⟩ = some (.int .i64 p.sk) ∧ (W.alloc o).cell? ⟨x + 1, 3, none⟩ = some (.int .i64 p.fr) ∧ (W.alloc o).cell? ⟨x + 1, 4, none⟩ = some (.int .i64 p.un) := by
  have l0 := World.block_lt_of_cell? W _ h.1
  have l1 := World.block_lt_of_cell? W _ h.2.1
  exact six_of h (heap_alloc_old W o l0) (heap_alloc_old W o l1)
theorem six_grown {W W' : World} {x : Nat} {u : Value} {p : Pn} {row : Option Nat} (h : W.cell? ⟨x, 0, none⟩ = some u ∧ W.cell? ⟨x + 1, 0, none⟩ = some (.string p.nm) ∧ W.cell? ⟨x + 1, 1, none⟩ = some (.int .i64 p.co) ∧ W.cell? ⟨x + 1, 2, none⟩ = some (.int .i64 p.sk) ∧ W.cell? ⟨x + 1, 3, none⟩ = some (.int .i64 p.fr) ∧ W.cell? ⟨x + 1, 4, none⟩ = some (.int .i64 p.un)) (hg : W.grownBy W' row) (hne : ∀ k, row = some k → x + 1 < k) : W'.cell? ⟨x, 0, none⟩ = some u ∧ W'.cell? ⟨x + 1, 0, none⟩ = some (.string p.nm) ∧ W'.cell? ⟨x + 1, 1, none⟩ = some (.int .i64 p.co) ∧ W'.cell? ⟨x + 1, 2, none⟩ = some (.int .i64 p.sk) ∧ W'.cell? ⟨x + 1, 3, none⟩ = some (.int .i64 p.fr) ∧ W'.cell? ⟨x + 1, 4, none⟩ = some (.int .i64 p.un) := by
  have l0 := World.block_lt_of_cell? W _ h.1
  have l1 := World.block_lt_of_cell? W _ h.2.1
  exact six_of h (hg.block x l0 (fun e => by have := hne _ e.symm; omega)) (hg.block (x + 1) l1 (fun e => by have := hne _ e.symm; omega))
theorem cells_new5 (w : World) (b : Nat) (hb : b = w.heap.size) (T : Nat) (p : Pn) : ∀ j u, (encPn p)[j]? = some u → (w.alloc (.cells #[.string p.nm, .int .i64 p.co, .int .i64 p.sk, .int .i64 p.fr, .int .i64 p.un] T)).cell? ((⟨b, 0, none⟩ : Addr).add j) = some u := by
  subst hb
  intro j u hu
  rw [Go.WideShapes.add_plain, Nat.zero_add]
  exact (cell_at (heap_alloc_new w _) j).1.trans (by simpa [encPn] using hu)
theorem cells_far {w w' : World} {b : Nat} {xs : List Value} {row : Option Nat} (h : ∀ j u, xs[j]? = some u → w.cell? ((⟨b, 0, none⟩ : Addr).add j) = some u) (hb : b < w.heap.size) (hg : w.grownBy w' row) (hne : some b ≠ row) : ∀ j u, xs[j]? = some u → w'.cell? ((⟨b, 0, none⟩ : Addr).add j) = some u := fun j u hu => by
  have h1 := h j u hu
  rw [Go.WideShapes.add_plain] at h1 ⊢
  exact (World.cell?_of_block (a := ⟨b, 0 + j, none⟩) (hg.block b hb hne)).trans h1
set_option maxRecDepth 100000 in
set_option maxHeartbeats 8000000 in
theorem radd_is (a : Option Addr) (N c : Nat) (ps : List Pn) (p : Pn) (w : World) (h : RegIn w a N c ps) (hpl : p.nm.size ≤ maxLen) :
    Calls Tryz.prog 21 #[.agg #[.slice a N c], pnV p] w (RegPost (addP ps p).1 (addP ps p).2 w) := by
  obtain ⟨⟨R1, R2⟩, hR⟩ : ∃ R, addP ps p = R := ⟨_, rfl⟩
  rw [hR]
  dsimp only
  obtain ⟨i0, hi, hz0, hz1, hz2⟩ := info_parts infoPn
  have bx := below_box w (.cells #[.slice a N c] 25)
  have by_ := below_box (w.alloc (.cells #[.slice a N c] 25)) (.cells #[.string p.nm, .int .i64 p.co, .int .i64 p.sk, .int .i64 p.fr, .int .i64 p.un] 27)
  have bz := below_box ((w.alloc (.cells #[.slice a N c] 25)).alloc (.cells #[.string p.nm, .int .i64 p.co, .int .i64 p.sk, .int .i64 p.fr, .int .i64 p.un] 27)) (.cells #[.slice none 0 0] 25)
  have BX := Lib.hid ((bx.trans (by_.mono bx.size)).trans (bz.mono (bx.trans (by_.mono bx.size)).size))
  have NT := Lib.hid (((OneAt.new w (.slice a N c) 25).below by_ (by simp)).below bz (by simp; omega))
  have PT := Lib.hid ((PnAt.new (w.alloc (.cells #[.slice a N c] 25)) p 27).below bz (by simp))
  have hres := heap_alloc_new ((w.alloc (.cells #[.slice a N c] 25)).alloc (.cells #[.string p.nm, .int .i64 p.co, .int .i64 p.sk, .int .i64 p.fr, .int .i64 p.un] 27)) (.cells #[.slice none 0 0] 25)
  rw [World.size_alloc, World.size_alloc] at hres
  rw [World.size_alloc] at PT
  have HN := Lib.hid (fun wr (bel : Below w.heap.size w wr) => h.below bel)
  obtain ⟨x, hx⟩ : ∃ x, w.heap.size = x := ⟨_, rfl⟩
  obtain ⟨W1, hW1⟩ : ∃ W, ((w.alloc (.cells #[.slice a N c] 25)).alloc (.cells #[.string p.nm, .int .i64 p.co, .int .i64 p.sk, .int .i64 p.fr, .int .i64 p.un] 27)).alloc (.cells #[.slice none 0 0] 25) = W := ⟨_, rfl⟩
  have hs1 : W1.heap.size = x + 3 := by rw [← hW1, ← hx]; simp
  rw [hW1] at BX NT hres PT
  rw [hx] at BX NT hres HN PT
  have n1 := h.ncap
  have n2 := h.nmax
  unfold maxLen at n2
  have hn := Lib.hid h.len
  have hft := Lib.hid h.fit
  obtain ⟨E, hE⟩ : ∃ E, chkP ps = E := ⟨_, rfl⟩
  obtain ⟨F, hF⟩ : ∃ F, pnE p = F := ⟨_, rfl⟩
  have CK := Lib.hid (rcheck_is a N c ps E W1 (HN.out _ BX.out) hE)
  have FT := Lib.hid (fun W => rfault_is p F W hpl hF)
  have RES : Hid (∀ W, Below W1.heap.size W1 W → W.heap[x + 2]? = some (.cells #[.slice none 0 0] 25 (0, 0))) := fun W b => by rw [b.block (x + 2) (by omega)]; exact hres
  have HPL := Lib.hid hpl
  unfold pnV at FT ⊢
  obtain ⟨nm, co, sk, fr, un⟩ := p
  dsimp only at FT PT HPL hW1 hR ⊢
  clear bx by_ bz hres hpl
  by_cases e0 : E = 0
  · subst e0
    by_cases f0 : F = 0
    · subst f0
      have hOk := chkP_zero.1 hE
      have HU := Lib.hid hOk.up
      have h64 : N ≤ 64 := by rw [← hn.out]; exact hOk.len
      obtain ⟨Q, hQ⟩ : ∃ Q, pos ps nm = Q := ⟨_, rfl⟩
      have HQ := Lib.hid hQ
      have hQN : Q ≤ N := by rw [← hQ, ← hn.out]; exact pos_le ps nm
      have LTB : Hid (∀ k (hk : k < ps.length), k < Q → lt ps[k].nm nm = true) := fun k hk hkq => takeW_lt (fun x : Pn => lt x.nm nm) ps k hk (by rw [← hQ] at hkq; exact hkq)
      have LTA : Hid (∀ hk : Q < ps.length, lt ps[Q].nm nm = false) := fun hk => by
        subst hQ
        exact takeW_at (fun x : Pn => lt x.nm nm) ps hk
      have CA : Hid (∀ W, Below x w W → 0 < N → ∃ g o, a = some ⟨g, o, none⟩ ∧ g < W.heap.size ∧ CellsAt encPn 5 W g o ps) := fun W b hp => (HN.out W b).rin.some (by rw [hn.out]; exact hp)
      have hA : addP ps ⟨nm, co, sk, fr, un⟩ = if fnd (nmsP ps) nm ≠ -1 then ([], 4) else if 64 ≤ N then ([], 1) else (ps.take Q ++ ⟨nm, co, sk, fr, un⟩ :: ps.drop Q, 0) := by
        unfold addP
        rw [if_neg (by simp [hE]), if_neg (by simp [hF]), ins_pos, hn.out, hQ]
      rw [hR] at hA
      have HA := Lib.hid hA
      clear hA hR hQ hF h hE hOk
      obtain ⟨k1, -⟩ := NT.out
      obtain ⟨q0, q1, q2, q3, q4, -⟩ := PT.out
      dsimp only at q0 q1 q2 q3 q4
      go_enter Tryz.func21, Tryz.ntmps21
      go_wp2_with fail
      refine CK.out.mono ?_; rintro e w2 ⟨rfl, b2⟩
      have B2 := Lib.hid b2
      have BL2 := Lib.hid (BX.out.trans (b2.mono (by have := BX.out.size; omega)))
      obtain ⟨k1, -⟩ := NT.out.below b2 NT.out.2
      obtain ⟨q0, q1, q2, q3, q4, -⟩ := PT.out.below b2 PT.out.2.2.2.2.2
      dsimp only at q0 q1 q2 q3 q4
      clear b2
      go_wp2_with fail
      refine (FT.out _).mono ?_; rintro e w3 ⟨rfl, b3⟩
      have B3 := Lib.hid (B2.out.trans (b3.mono B2.out.size))
      have BL3 := Lib.hid (BL2.out.trans (b3.mono (by have := BL2.out.size; omega)))
      obtain ⟨k1, -⟩ := NT.out.below B3.out NT.out.2
      obtain ⟨q0, q1, q2, q3, q4, -⟩ := PT.out.below B3.out PT.out.2.2.2.2.2
      dsimp only at q0 q1 q2 q3 q4
      clear b3
      go_wp2
      go_loopw [8] (fun i wr => ∃ j n : Nat, j ≤ Q ∧ i = .int .i64 j ∧ wr = w3.drewN n) (fun i _ => Q - (intOf i).toNat)
      case atStart => exact ⟨0, 0, Nat.zero_le _, rfl, rfl⟩
      case round =>
        obtain ⟨j, n, hjq, rfl, rfl⟩ := hrel
        have hjc : (j : Int) ≤ (N : Int) := by omega
        by_cases hjn : j < N
        · have T1 : decide ((j : Int) < (N : Int)) = true := decide_eq_true (by omega)
          have hjx : j < ps.length := by rw [hn.out]; exact hjn
          obtain ⟨g, o, hae, hg, hc⟩ := CA.out _ BL3.out (by omega)
          have CL : Hid (∀ W, Below x w W → ∀ k (hk : k < ps.length), W.cell? ⟨g, o + k * 5, none⟩ = some (.string ps[k].nm)) := fun W b k hk => by
            obtain ⟨g', o', e, _, hc⟩ := CA.out W b (by omega)
            rw [hae] at e
            injection e with e; injection e with e1 e2; subst e1 e2; exact (cells_pn hc k hk).1
          have HAE := Lib.hid hae
          have c0 := CL.out _ BL3.out j hjx
          have hjN : (j : Int) < (N : Int) := by omega
          obtain ⟨y, hy⟩ : ∃ y, ps[j].nm = y := ⟨_, rfl⟩
          rw [hy] at c0
          by_cases hjq2 : j < Q
          · have TL : Go.Op.bytesLess y.toList nm.toList = true := by rw [Lib.toList_data, Lib.toList_data, ← hy]; exact LTB.out j hjx hjq2
            clear hc hy
            subst hae
            go_wp2
            go_quiet (fail)
            go_wp2
            go_roundw
            case rel => exact ⟨j + 1, n + nq, by omega, by go_num, rfl⟩
            case measure => simp [intOf]; omega
          · obtain rfl : j = Q := by omega
            have TL : Go.Op.bytesLess y.toList nm.toList = false := by rw [Lib.toList_data, Lib.toList_data, ← hy]; exact LTA.out hjx
            by_cases e : y = nm
            · have TE : (y.toList == nm.toList) = true := by rw [str_eq]; exact decide_eq_true e
              have hf : fnd (nmsP ps) nm = j := by
                have := fnd_pos HU.out nm (by rw [HQ.out]; exact hjx) (by simpa only [HQ.out] using hy.trans e)
                rw [this, HQ.out]
              obtain ⟨rfl, rfl⟩ : R1 = [] ∧ R2 = 4 := by have := HA.out; rw [if_pos (by rw [hf]; omega)] at this; injection this with a b; exact ⟨a, b⟩
              have HY := Lib.hid hy
              clear hc hy hf e
              subst hae
              go_wp2
              go_quiet (fail)
              go_wp2
              obtain ⟨W4, hW4⟩ : ∃ W, (w3.drewN n).drewN nq = W := ⟨_, rfl⟩
              rw [hW4]
              have B4 : Hid (Below W1.heap.size W1 W4) := by rw [← hW4]; exact below_drewN (below_drewN B3.out _) _
              have BL4 : Hid (Below x w W4) := by rw [← hW4]; exact below_drewN (below_drewN BL3.out _) _
              obtain ⟨k1, -⟩ := NT.out.below B4.out NT.out.2
              obtain ⟨q0, q1, q2, q3, q4, -⟩ := PT.out.below B4.out PT.out.2.2.2.2.2
              dsimp only at q0 q1 q2 q3 q4
              clear hW4
              have c0 := CL.out _ BL4.out j hjx
              rw [HY.out] at c0
              go_quiet (fail)
              obtain ⟨W5, hW5⟩ : ∃ W, W4.drewN nq = W := ⟨_, rfl⟩
              rw [hW5]
              have B5 : Hid (Below W1.heap.size W1 W5) := by rw [← hW5]; exact below_drewN B4.out _
              have BL5 : Hid (Below x w W5) := by rw [← hW5]; exact below_drewN BL4.out _
              obtain ⟨k1, -⟩ := NT.out.below B5.out NT.out.2
              obtain ⟨q0, q1, q2, q3, q4, -⟩ := PT.out.below B5.out PT.out.2.2.2.2.2
              dsimp only at q0 q1 q2 q3 q4
              clear hW5
              have hr3 := RES.out _ B5.out
              obtain ⟨c0, z0⟩ := cell_at hr3 0
              have e1 := set_at (i := 0) (.slice none 0 0) hr3
              have p0 := (cell_at e1 0).1
              have BE := Lib.hid (BL5.out.setCell (p := ⟨x + 2, 0, none⟩) (by show x ≤ x + 2; omega) (.slice none 0 0))
              clear hr3 e1
              go_wp2
              exact bodyPost_ret (v := .tuple #[.agg #[.slice none 0 0], .int .i64 4]) (by simp [results, Tryz.results21, go_sem, p0]) rfl ⟨_, _, _, rfl, reg_nil _, by rw [hx]; exact BE.out⟩
            · have TE : (y.toList == nm.toList) = false := by rw [str_eq]; exact decide_eq_false e
              have hf : fnd (nmsP ps) nm = -1 := fnd_not HU.out nm (fun h1 => by simpa only [HQ.out, hy] using e)
              have HY := Lib.hid hy
              clear hc hy e
              subst hae
              go_wp2
              go_quiet (fail)
              go_wp2
              obtain ⟨W4, hW4⟩ : ∃ W, (w3.drewN n).drewN nq = W := ⟨_, rfl⟩
              rw [hW4]
              have B4 : Hid (Below W1.heap.size W1 W4) := by rw [← hW4]; exact below_drewN (below_drewN B3.out _) _
              have BL4 : Hid (Below x w W4) := by rw [← hW4]; exact below_drewN (below_drewN BL3.out _) _
              obtain ⟨k1, -⟩ := NT.out.below B4.out NT.out.2
              obtain ⟨q0, q1, q2, q3, q4, -⟩ := PT.out.below B4.out PT.out.2.2.2.2.2
              dsimp only at q0 q1 q2 q3 q4
              clear hW4
              have c0 := CL.out _ BL4.out j hjx
              rw [HY.out] at c0
              clear CL HAE
              have HA2 := HA.out
              rw [if_neg (by rw [hf]; simp)] at HA2
              clear hf
              by_cases h64' : N = 64
              · obtain ⟨rfl, rfl⟩ : R1 = [] ∧ R2 = 1 := by rw [if_pos (by omega)] at HA2; injection HA2 with a b; exact ⟨a, b⟩
                have T64 : decide ((64 : Int) ≤ (N : Int)) = true := decide_eq_true (by omega)
                clear h64' HA2
                go_quiet (fail)
                obtain ⟨W5, hW5⟩ : ∃ W, W4.drewN nq = W := ⟨_, rfl⟩
                rw [hW5]
                have B5 : Hid (Below W1.heap.size W1 W5) := by rw [← hW5]; exact below_drewN B4.out _
                have BL5 : Hid (Below x w W5) := by rw [← hW5]; exact below_drewN BL4.out _
                obtain ⟨k1, -⟩ := NT.out.below B5.out NT.out.2
                obtain ⟨q0, q1, q2, q3, q4, -⟩ := PT.out.below B5.out PT.out.2.2.2.2.2
                dsimp only at q0 q1 q2 q3 q4
                clear hW5
                have hr3 := RES.out _ B5.out
                obtain ⟨c0, z0⟩ := cell_at hr3 0
                have e1 := set_at (i := 0) (.slice none 0 0) hr3
                have p0 := (cell_at e1 0).1
                have BE := Lib.hid (BL5.out.setCell (p := ⟨x + 2, 0, none⟩) (by show x ≤ x + 2; omega) (.slice none 0 0))
                clear hr3 e1
                go_wp2
                exact bodyPost_ret (v := .tuple #[.agg #[.slice none 0 0], .int .i64 1]) (by simp [results, Tryz.results21, go_sem, p0]) rfl ⟨_, _, _, rfl, reg_nil _, by rw [hx]; exact BE.out⟩
              · obtain ⟨rfl, rfl⟩ : R1 = ps.take j ++ ⟨nm, co, sk, fr, un⟩ :: ps.drop j ∧ R2 = 0 := by rw [if_neg (by omega)] at HA2; injection HA2 with a b; exact ⟨a, b⟩
                have T64 : decide ((64 : Int) ≤ (N : Int)) = false := decide_eq_false (by omega)
                have N63 : N ≤ 63 := by omega
                clear h64' HA2
                go_quiet (fail)
                obtain ⟨W5, hW5⟩ : ∃ W, W4.drewN nq = W := ⟨_, rfl⟩
                rw [hW5]
                have B5 : Hid (Below W1.heap.size W1 W5) := by rw [← hW5]; exact below_drewN B4.out _
                have BL5 : Hid (Below x w W5) := by rw [← hW5]; exact below_drewN BL4.out _
                obtain ⟨k1, -⟩ := NT.out.below B5.out NT.out.2
                obtain ⟨q0, q1, q2, q3, q4, -⟩ := PT.out.below B5.out PT.out.2.2.2.2.2
                dsimp only at q0 q1 q2 q3 q4
                clear hW5
                have LP : Hid ((flat encPn (ps.take j)).length = j * 5) := by
                  show _ = _
                  rw [flat_length encPn_len, List.length_take, hn.out, Nat.min_eq_left hQN]
                have CL : Hid (∀ W, Below x w W → CellsAt encPn 5 W g o ps) := fun W b => by
                  rcases (HN.out W b).rin with ⟨e, _⟩ | ⟨g', o', e, _, hc⟩
                  · cases e
                  · injection e with e; injection e with e1 e2; subst e1 e2; exact hc
                have NW1 : Hid (∀ W, Below W5.heap.size W5 W → ∀ i u, (flat encPn (ps.take j))[i]? = some u → W.cell? ((⟨g, o, none⟩ : Addr).add i) = some u) := fun W b => cells_news (cells_take (CL.out W (BL5.out.trans (b.mono (by have := BL5.out.size; omega)))) j)
                have hQc : (j : Int) ≤ (c : Int) := by omega
                have hQn : (j : Int) ≤ (N : Int) := by omega
                have hx5 : x + 3 ≤ W5.heap.size := by have := B5.out.size; omega
                have hcq2 : ¬ ((c : Int) = (j : Int)) := by omega
                go_wp2
                go_region_held3 (fun W => W.cell? ⟨x, 0, none⟩ = some (.slice (some ⟨g, o, none⟩) N c) ∧ W.cell? ⟨x + 1, 0, none⟩ = some (.string nm) ∧ W.cell? ⟨x + 1, 1, none⟩ = some (.int .i64 co) ∧ W.cell? ⟨x + 1, 2, none⟩ = some (.int .i64 sk) ∧ W.cell? ⟨x + 1, 3, none⟩ = some (.int .i64 fr) ∧ W.cell? ⟨x + 1, 4, none⟩ = some (.int .i64 un))
                  (first | go_keep | exact six_alloc (p := ⟨nm, co, sk, fr, un⟩) (by assumption) _ | assumption | exact six_grown (p := ⟨nm, co, sk, fr, un⟩) (by assumption) hgrow1 (fun k hk => by simp [Value.ownBlock] at hk) | exact six_grown (p := ⟨nm, co, sk, fr, un⟩) (by assumption) hgrow2 (fun k hk => by have := (World.ownsRow.lt hown1 _ hk).1; omega))
                  (first
                    | (refine step_app (by rfl) (.const (.slice none 0 0)) (.tmp 65) 23 (by rfl) W5.heap.size 27 i0 _ 5 48 Tryz.underlying23 hi hz0 hz1 hz2 rfl (by decide) (.slice none 0 0) 0 [] (by rfl) (World.ownsRow_nil _ _ _ _) ⟨g, o, none⟩ j c (flat encPn (ps.take j)) (by rfl) LP.out (NW1.out _ (by repeat (first | exact Below.refl _ _ | apply Below.drew | apply below_drewN | refine Below.alloc ?_ (by simp) _))) (flat_oneCell encPn_one _) (by unfold maxLen; omega) (by omega) (by simp) ?_; intro v1 w1 hown1 hgrow1 hn1)
                    | (refine step_app (by rfl) (.tmp 66) (.tmp 68) 23 (by rfl) W5.heap.size 27 i0 _ 5 48 Tryz.underlying23 hi hz0 hz1 hz2 rfl (by decide) v1 (0 + j) ([] ++ flat encPn (ps.take j)) (by rfl) (hown1.alloc _) ⟨w1.heap.size, 0, none⟩ 1 1 (encPn ⟨nm, co, sk, fr, un⟩) (by rfl) rfl (cells_new5 _ _ rfl _ ⟨nm, co, sk, fr, un⟩) (encPn_one ⟨nm, co, sk, fr, un⟩) (by unfold maxLen; omega) (by omega) (by have := hgrow1.size; simp at this ⊢; omega) ?_; intro v2 w2' hown2 hgrow2 hn2)
                    | (refine step_app (by rfl) (.tmp 66) (.tmp 68) 23 (by rfl) W5.heap.size 27 i0 _ 5 48 Tryz.underlying23 hi hz0 hz1 hz2 rfl (by decide) v1 (0 + j) ([] ++ flat encPn (ps.take j)) (by rfl) hown1 ⟨W5.heap.size, 0, none⟩ 1 1 (encPn ⟨nm, co, sk, fr, un⟩) (by rfl) rfl (by refine cells_far (w := (W5.alloc (.cells #[.string nm, .int .i64 co, .int .i64 sk, .int .i64 fr, .int .i64 un] 27)).drew) ?_ (show W5.heap.size < (W5.alloc (.cells #[.string nm, .int .i64 co, .int .i64 sk, .int .i64 fr, .int .i64 un] 27)).heap.size from by simp) hgrow1 (by simp [Value.ownBlock]); exact cells_new5 W5 W5.heap.size rfl 27 ⟨nm, co, sk, fr, un⟩) (encPn_one ⟨nm, co, sk, fr, un⟩) (by unfold maxLen; omega) (by omega) (by have := hgrow1.size; simp at this ⊢; omega) ?_; intro v2 w2' hown2 hgrow2 hn2))
                all_goals (
                  have OL1 := Lib.hid (World.ownsRow.lt hown1)
                  have BW : Below W5.heap.size W5 w2' := by
                    first
                      | exact (((Below.refl _ _).drew.grown hgrow1 (Nat.le_refl _) (fun k hk => by simp [Value.ownBlock] at hk)).alloc (by have h1 := hgrow1.size; simp at h1; exact h1) _).grown hgrow2 (by have h1 := hgrow1.size; simp at h1 ⊢; omega) (fun k hk => (OL1.out k hk).1)
                      | exact (((Below.refl _ _).alloc (Nat.le_refl _) _).drew.grown hgrow1 (by simp) (fun k hk => by simp [Value.ownBlock] at hk)).grown hgrow2 (by have h1 := hgrow1.size; simp at h1; omega) (fun k hk => (OL1.out k hk).1)
                  clear hown1 hgrow1 hn1 OL1
                  have O2 := Lib.hid hown2
                  have O2L := Lib.hid (World.ownsRow.lt hown2)
                  have hs2 := BW.size
                  have B6 := Lib.hid (B5.out.trans (BW.mono (by have := B5.out.size; omega)))
                  have BL6 := Lib.hid (BL5.out.trans (BW.mono (by have := BL5.out.size; omega)))
                  obtain ⟨k1, -⟩ := NT.out.below B6.out NT.out.2
                  clear hown2 hgrow2 hn2 BW q0 q1 q2 q3 q4
                  have AFTER : Hid (∀ v3 w6, w6.ownsRow W5.heap.size 27 5 v3 (N + 1) (flat encPn (ps.take j ++ ⟨nm, co, sk, fr, un⟩ :: ps.drop j)) → w2'.grownBy w6 v2.ownBlock → ∃ a2 c2, v3 = .slice a2 (N + 1) c2 ∧ w6.heap[x + 2]? = some (.cells #[.slice none 0 0] 25 (0, 0)) ∧ RegIn (w6.setCell ⟨x + 2, 0, none⟩ v3) a2 (N + 1) c2 (ps.take j ++ ⟨nm, co, sk, fr, un⟩ :: ps.drop j) ∧ Below x w (w6.setCell ⟨x + 2, 0, none⟩ v3)) := fun v3 w6 hown3 hgrow3 => by
                    have hX := B5.out.size
                    have B7 := B6.out.grown hgrow3 (by omega) (fun k hk => by have := (O2L.out k hk).1; omega)
                    have BL7 := BL6.out.grown hgrow3 (by omega) (fun k hk => by have := (O2L.out k hk).1; omega)
                    have el : (ps.take j ++ ⟨nm, co, sk, fr, un⟩ :: ps.drop j).length = N + 1 := by
                      rw [List.length_append, List.length_cons, List.length_take, List.length_drop, hn.out]; omega
                    have ag : AggsAt 27 5 encPn w6 W5.heap.size v3 (ps.take j ++ ⟨nm, co, sk, fr, un⟩ :: ps.drop j) := by
                      show w6.ownsRow _ _ 5 v3 (ps.take j ++ ⟨nm, co, sk, fr, un⟩ :: ps.drop j).length (flat encPn (ps.take j ++ ⟨nm, co, sk, fr, un⟩ :: ps.drop j))
                      rw [el]; exact hown3
                    have gs : w6.grownBy (w6.setCell ⟨x + 2, 0, none⟩ v3) (some (x + 2)) := gb_set v3 (gb_refl w6 _)
                    have ag6 := ag.grown gs (fun k hk => by cases hk; omega)
                    have hfit : ∀ y ∈ ps.take j ++ ⟨nm, co, sk, fr, un⟩ :: ps.drop j, y.nm.size ≤ maxLen := fun y hy => by
                      rcases List.mem_append.1 hy with hy | hy
                      · exact hft.out y (List.mem_of_mem_take hy)
                      · rcases List.mem_cons.1 hy with rfl | hy
                        · exact HPL.out
                        · exact hft.out y (List.mem_of_mem_drop hy)
                    obtain ⟨a2, c2, e2, r2⟩ := reg_of ag6 hfit
                    rw [el] at e2 r2
                    exact ⟨a2, c2, e2, RES.out _ B7, r2, BL7.setCell (p := ⟨x + 2, 0, none⟩) (by show x ≤ x + 2; omega) v3⟩
                  have FE : Hid (flat encPn (ps.take j ++ ⟨nm, co, sk, fr, un⟩ :: ps.drop j) = flat encPn (ps.take j) ++ encPn ⟨nm, co, sk, fr, un⟩ ++ flat encPn (ps.drop j)) := by
                    show _ = _
                    rw [flat_append, flat_cons, List.append_assoc]
                  have hcells := CL.out _ BL6.out
                  go_wp2_with (at_builtin; refine wpList_append_own _ rfl (.tmp 70) (.tmp 74) 23 rfl W5.heap.size 27 i0 _ 5 48 Tryz.underlying23 hi hz0 hz1 hz2 rfl (by decide) v2 (0 + j + 1) ([] ++ flat encPn (ps.take j) ++ encPn ⟨nm, co, sk, fr, un⟩) rfl O2.out ⟨g, o + j * 5, none⟩ (N - j) (c - j) (flat encPn (ps.drop j)) rfl ?qc1 ?qc2 ?qc3 ?qc4 ?qc5 ?qc6 ?_)
                  case qc1 => rw [flat_length encPn_len, List.length_drop, hn.out]; (try omega)
                  case qc2 => exact cells_news (cells_drop hcells encPn_len j (by rw [hn.out]; exact hQN))
                  case qc3 => exact flat_oneCell encPn_one _
                  case qc4 => unfold maxLen; omega
                  case qc5 => omega
                  case qc6 => omega
                  intro v3 w6 hown3 hgrow3 hn3
                  obtain ⟨a2, c2, rfl, hr7, hreg, hbel⟩ := AFTER.out v3 w6 (by rw [FE.out]; have hh := hown3; (try simp only [Nat.zero_add, List.nil_append] at hh); rw [show N + 1 = j + 1 + (N - j) from by omega]; first | exact hh | (rw [List.append_assoc]; exact hh)) hgrow3
                  clear hown3 hgrow3 hn3
                  obtain ⟨c0, z0⟩ := cell_at hr7 0
                  have p0 := (cell_at (set_at (i := 0) (.slice a2 (N + 1) c2) hr7) 0).1
                  have HREG := Lib.hid hreg
                  have HBEL := Lib.hid hbel
                  clear hreg hbel hr7
                  go_wp2
                  exact bodyPost_ret (v := .tuple #[.agg #[.slice a2 (N + 1) c2], .int .i64 0]) (by simp [results, Tryz.results21, go_sem, p0]) rfl ⟨_, _, _, rfl, HREG.out, by rw [hx]; exact HBEL.out⟩)
        · obtain rfl : j = N := by omega
          obtain rfl : j = Q := by omega
          have T1 : decide ((j : Int) < (j : Int)) = false := decide_eq_false (by omega)
          have hf : fnd (nmsP ps) nm = -1 := fnd_not HU.out nm (fun h1 => by rw [HQ.out, hn.out] at h1; omega)
          go_wp2
          go_quiet (fail)
          go_wp2
          obtain ⟨W4, hW4⟩ : ∃ W, (w3.drewN n).drewN nq = W := ⟨_, rfl⟩
          rw [hW4]
          have B4 : Hid (Below W1.heap.size W1 W4) := by rw [← hW4]; exact below_drewN (below_drewN B3.out _) _
          have BL4 : Hid (Below x w W4) := by rw [← hW4]; exact below_drewN (below_drewN BL3.out _) _
          obtain ⟨k1, -⟩ := NT.out.below B4.out NT.out.2
          obtain ⟨q0, q1, q2, q3, q4, -⟩ := PT.out.below B4.out PT.out.2.2.2.2.2
          dsimp only at q0 q1 q2 q3 q4
          clear hW4
          have HA2 := HA.out
          rw [if_neg (by rw [hf]; simp)] at HA2
          clear hf
          by_cases h64' : j = 64
          · obtain ⟨rfl, rfl⟩ : R1 = [] ∧ R2 = 1 := by rw [if_pos (by omega)] at HA2; injection HA2 with a b; exact ⟨a, b⟩
            have T64 : decide ((64 : Int) ≤ (j : Int)) = true := decide_eq_true (by omega)
            clear h64' HA2
            go_quiet (fail)
            obtain ⟨W5, hW5⟩ : ∃ W, W4.drewN nq = W := ⟨_, rfl⟩
            rw [hW5]
            have B5 : Hid (Below W1.heap.size W1 W5) := by rw [← hW5]; exact below_drewN B4.out _
            have BL5 : Hid (Below x w W5) := by rw [← hW5]; exact below_drewN BL4.out _
            obtain ⟨k1, -⟩ := NT.out.below B5.out NT.out.2
            obtain ⟨q0, q1, q2, q3, q4, -⟩ := PT.out.below B5.out PT.out.2.2.2.2.2
            dsimp only at q0 q1 q2 q3 q4
            clear hW5
            have hr3 := RES.out _ B5.out
            obtain ⟨c0, z0⟩ := cell_at hr3 0
            have e1 := set_at (i := 0) (.slice none 0 0) hr3
            have p0 := (cell_at e1 0).1
            have BE := Lib.hid (BL5.out.setCell (p := ⟨x + 2, 0, none⟩) (by show x ≤ x + 2; omega) (.slice none 0 0))
            clear hr3 e1
            go_wp2
            exact bodyPost_ret (v := .tuple #[.agg #[.slice none 0 0], .int .i64 1]) (by simp [results, Tryz.results21, go_sem, p0]) rfl ⟨_, _, _, rfl, reg_nil _, by rw [hx]; exact BE.out⟩
          · obtain ⟨rfl, rfl⟩ : R1 = ps.take j ++ ⟨nm, co, sk, fr, un⟩ :: ps.drop j ∧ R2 = 0 := by rw [if_neg (by omega)] at HA2; injection HA2 with a b; exact ⟨a, b⟩
            have T64 : decide ((64 : Int) ≤ (j : Int)) = false := decide_eq_false (by omega)
            have N63 : j ≤ 63 := by omega
            clear h64' HA2
            go_quiet (fail)
            obtain ⟨W5, hW5⟩ : ∃ W, W4.drewN nq = W := ⟨_, rfl⟩
            rw [hW5]
            have B5 : Hid (Below W1.heap.size W1 W5) := by rw [← hW5]; exact below_drewN B4.out _
            have BL5 : Hid (Below x w W5) := by rw [← hW5]; exact below_drewN BL4.out _
            obtain ⟨k1, -⟩ := NT.out.below B5.out NT.out.2
            obtain ⟨q0, q1, q2, q3, q4, -⟩ := PT.out.below B5.out PT.out.2.2.2.2.2
            dsimp only at q0 q1 q2 q3 q4
            clear hW5
            have LP : Hid ((flat encPn (ps.take j)).length = j * 5) := by
              show _ = _
              rw [flat_length encPn_len, List.length_take, hn.out, Nat.min_eq_left hQN]
            rcases (HN.out _ BL5.out).rin with ⟨rfl, rfl⟩ | ⟨g, o, rfl, -, -⟩
            · obtain rfl : j = 0 := by rw [← hn.out]; rfl
              obtain rfl : c = 0 := (HN.out _ BL5.out).nil rfl
              rw [show ((0 : Nat) : Int) = (0 : Int) from rfl]
              go_wp2
              go_region_held3 (fun W => W.cell? ⟨x, 0, none⟩ = some (.slice none 0 0) ∧ W.cell? ⟨x + 1, 0, none⟩ = some (.string nm) ∧ W.cell? ⟨x + 1, 1, none⟩ = some (.int .i64 co) ∧ W.cell? ⟨x + 1, 2, none⟩ = some (.int .i64 sk) ∧ W.cell? ⟨x + 1, 3, none⟩ = some (.int .i64 fr) ∧ W.cell? ⟨x + 1, 4, none⟩ = some (.int .i64 un))
                (first | go_keep | exact six_alloc (p := ⟨nm, co, sk, fr, un⟩) (by assumption) _ | assumption | exact six_grown (p := ⟨nm, co, sk, fr, un⟩) (by assumption) hgrow2 (fun k hk => by simp [Value.ownBlock] at hk))
                (first
                  | (refine step_app_none (by rfl) (.const (.slice none 0 0)) (.tmp 65) 23 (by rfl) W5.heap.size 27 i0 5 Tryz.underlying23 hi (.slice none 0 0) 0 [] (by rfl) (World.ownsRow_nil _ _ _ _) (by rfl) ?_)
                  | (refine step_app (by rfl) (.tmp 66) (.tmp 68) 23 (by rfl) W5.heap.size 27 i0 _ 5 48 Tryz.underlying23 hi hz0 hz1 hz2 rfl (by decide) (.slice none 0 0) 0 [] (by rfl) (World.ownsRow_nil _ _ _ _) ⟨W5.heap.size, 0, none⟩ 1 1 (encPn ⟨nm, co, sk, fr, un⟩) (by rfl) rfl (cells_new5 W5 W5.heap.size rfl 27 ⟨nm, co, sk, fr, un⟩) (encPn_one ⟨nm, co, sk, fr, un⟩) (by unfold maxLen; omega) (by omega) (by simp) ?_; intro v2 w2' hown2 hgrow2 hn2))
              all_goals (
                have BW : Below W5.heap.size W5 w2' := by
                  first
                    | exact ((Below.refl W5.heap.size W5).drew.alloc (by simp) _).grown hgrow2 (by simp) (fun k hk => by simp [Value.ownBlock] at hk)
                    | exact ((Below.refl W5.heap.size W5).alloc (Nat.le_refl _) _).drew.grown hgrow2 (by simp) (fun k hk => by simp [Value.ownBlock] at hk)
                have O2 := Lib.hid hown2
                have O2L := Lib.hid (World.ownsRow.lt hown2)
                have hs2 := BW.size
                have B6 := Lib.hid (B5.out.trans (BW.mono (by have := B5.out.size; omega)))
                have BL6 := Lib.hid (BL5.out.trans (BW.mono (by have := BL5.out.size; omega)))
                obtain ⟨k1, -⟩ := NT.out.below B6.out NT.out.2
                clear hown2 hgrow2 hn2 BW q0 q1 q2 q3 q4
                have AFTER : Hid (∀ v3 w6, w6.ownsRow W5.heap.size 27 5 v3 (0 + 1) (flat encPn (([] : List Pn).take 0 ++ ⟨nm, co, sk, fr, un⟩ :: ([] : List Pn).drop 0)) → w2'.grownBy w6 v2.ownBlock → ∃ a2 c2, v3 = .slice a2 (0 + 1) c2 ∧ w6.heap[x + 2]? = some (.cells #[.slice none 0 0] 25 (0, 0)) ∧ RegIn (w6.setCell ⟨x + 2, 0, none⟩ v3) a2 (0 + 1) c2 (([] : List Pn).take 0 ++ ⟨nm, co, sk, fr, un⟩ :: ([] : List Pn).drop 0) ∧ Below x w (w6.setCell ⟨x + 2, 0, none⟩ v3)) := fun v3 w6 hown3 hgrow3 => by
                  have hX := B5.out.size
                  have B7 := B6.out.grown hgrow3 (by omega) (fun k hk => by have := (O2L.out k hk).1; omega)
                  have BL7 := BL6.out.grown hgrow3 (by omega) (fun k hk => by have := (O2L.out k hk).1; omega)
                  have el : (([] : List Pn).take 0 ++ ⟨nm, co, sk, fr, un⟩ :: ([] : List Pn).drop 0).length = 0 + 1 := by
                    rw [List.length_append, List.length_cons, List.length_take, List.length_drop, hn.out]; omega
                  have ag : AggsAt 27 5 encPn w6 W5.heap.size v3 (([] : List Pn).take 0 ++ ⟨nm, co, sk, fr, un⟩ :: ([] : List Pn).drop 0) := by
                    show w6.ownsRow _ _ 5 v3 (([] : List Pn).take 0 ++ ⟨nm, co, sk, fr, un⟩ :: ([] : List Pn).drop 0).length (flat encPn (([] : List Pn).take 0 ++ ⟨nm, co, sk, fr, un⟩ :: ([] : List Pn).drop 0))
                    rw [el]; exact hown3
                  have gs : w6.grownBy (w6.setCell ⟨x + 2, 0, none⟩ v3) (some (x + 2)) := gb_set v3 (gb_refl w6 _)
                  have ag6 := ag.grown gs (fun k hk => by cases hk; omega)
                  have hfit : ∀ y ∈ ([] : List Pn).take 0 ++ ⟨nm, co, sk, fr, un⟩ :: ([] : List Pn).drop 0, y.nm.size ≤ maxLen := fun y hy => by
                    rcases List.mem_append.1 hy with hy | hy
                    · exact hft.out y (List.mem_of_mem_take hy)
                    · rcases List.mem_cons.1 hy with rfl | hy
                      · exact HPL.out
                      · exact hft.out y (List.mem_of_mem_drop hy)
                  obtain ⟨a2, c2, e2, r2⟩ := reg_of ag6 hfit
                  rw [el] at e2 r2
                  exact ⟨a2, c2, e2, RES.out _ B7, r2, BL7.setCell (p := ⟨x + 2, 0, none⟩) (by show x ≤ x + 2; omega) v3⟩
                have FE : Hid (flat encPn (([] : List Pn).take 0 ++ ⟨nm, co, sk, fr, un⟩ :: ([] : List Pn).drop 0) = flat encPn (([] : List Pn).take 0) ++ encPn ⟨nm, co, sk, fr, un⟩ ++ flat encPn (([] : List Pn).drop 0)) := by
                  show _ = _
                  rw [flat_append, flat_cons, List.append_assoc]
                obtain ⟨a2, c2, rfl, hr7, hreg, hbel⟩ := AFTER.out v2 w2' (by rw [FE.out]; have hh := O2.out; (try simp only [Nat.zero_add, List.nil_append] at hh); simpa [flat] using hh) (gb_refl _ _)
                obtain ⟨c0, z0⟩ := cell_at hr7 0
                have p0 := (cell_at (set_at (i := 0) (.slice a2 (0 + 1) c2) hr7) 0).1
                go_wp2_with (at_builtin; refine wpList_append_own_none rfl (.tmp 70) (.tmp 74) 23 rfl W5.heap.size 27 i0 5 Tryz.underlying23 hi _ (0 + 1) ([] ++ encPn ⟨nm, co, sk, fr, un⟩) rfl O2.out rfl ?_)
                have HREG := Lib.hid hreg
                have HBEL := Lib.hid hbel
                clear hreg hbel hr7
                exact bodyPost_ret (v := .tuple #[.agg #[.slice a2 (0 + 1) c2], .int .i64 0]) (by simp [results, Tryz.results21, go_sem, p0]) rfl ⟨_, _, _, rfl, HREG.out, by rw [hx]; exact HBEL.out⟩)
            · have CL : Hid (∀ W, Below x w W → CellsAt encPn 5 W g o ps) := fun W b => by
                rcases (HN.out W b).rin with ⟨e, _⟩ | ⟨g', o', e, _, hc⟩
                · cases e
                · injection e with e; injection e with e1 e2; subst e1 e2; exact hc
              have NW1 : Hid (∀ W, Below W5.heap.size W5 W → ∀ i u, (flat encPn (ps.take j))[i]? = some u → W.cell? ((⟨g, o, none⟩ : Addr).add i) = some u) := fun W b => cells_news (cells_take (CL.out W (BL5.out.trans (b.mono (by have := BL5.out.size; omega)))) j)
              have hQc : (j : Int) ≤ (c : Int) := by omega
              have hQn : (j : Int) ≤ (j : Int) := by omega
              have hx5 : x + 3 ≤ W5.heap.size := by have := B5.out.size; omega
              by_cases hcq : c = j
              · obtain rfl : j = c := hcq.symm
                go_wp2
                go_region_held3 (fun W => W.cell? ⟨x, 0, none⟩ = some (.slice (some ⟨g, o, none⟩) j j) ∧ W.cell? ⟨x + 1, 0, none⟩ = some (.string nm) ∧ W.cell? ⟨x + 1, 1, none⟩ = some (.int .i64 co) ∧ W.cell? ⟨x + 1, 2, none⟩ = some (.int .i64 sk) ∧ W.cell? ⟨x + 1, 3, none⟩ = some (.int .i64 fr) ∧ W.cell? ⟨x + 1, 4, none⟩ = some (.int .i64 un))
                  (first | go_keep | exact six_alloc (p := ⟨nm, co, sk, fr, un⟩) (by assumption) _ | assumption | exact six_grown (p := ⟨nm, co, sk, fr, un⟩) (by assumption) hgrow1 (fun k hk => by simp [Value.ownBlock] at hk) | exact six_grown (p := ⟨nm, co, sk, fr, un⟩) (by assumption) hgrow2 (fun k hk => by have := (World.ownsRow.lt hown1 _ hk).1; omega))
                  (first
                    | (refine step_app (by rfl) (.const (.slice none 0 0)) (.tmp 65) 23 (by rfl) W5.heap.size 27 i0 _ 5 48 Tryz.underlying23 hi hz0 hz1 hz2 rfl (by decide) (.slice none 0 0) 0 [] (by rfl) (World.ownsRow_nil _ _ _ _) ⟨g, o, none⟩ j j (flat encPn (ps.take j)) (by rfl) LP.out (NW1.out _ (by repeat (first | exact Below.refl _ _ | apply Below.drew | apply below_drewN | refine Below.alloc ?_ (by simp) _))) (flat_oneCell encPn_one _) (by unfold maxLen; omega) (by omega) (by simp) ?_; intro v1 w1 hown1 hgrow1 hn1)
                    | (refine step_app (by rfl) (.tmp 66) (.tmp 68) 23 (by rfl) W5.heap.size 27 i0 _ 5 48 Tryz.underlying23 hi hz0 hz1 hz2 rfl (by decide) v1 (0 + j) ([] ++ flat encPn (ps.take j)) (by rfl) (hown1.alloc _) ⟨w1.heap.size, 0, none⟩ 1 1 (encPn ⟨nm, co, sk, fr, un⟩) (by rfl) rfl (cells_new5 _ _ rfl _ ⟨nm, co, sk, fr, un⟩) (encPn_one ⟨nm, co, sk, fr, un⟩) (by unfold maxLen; omega) (by omega) (by have := hgrow1.size; simp at this ⊢; omega) ?_; intro v2 w2' hown2 hgrow2 hn2)
                    | (refine step_app (by rfl) (.tmp 66) (.tmp 68) 23 (by rfl) W5.heap.size 27 i0 _ 5 48 Tryz.underlying23 hi hz0 hz1 hz2 rfl (by decide) v1 (0 + j) ([] ++ flat encPn (ps.take j)) (by rfl) hown1 ⟨W5.heap.size, 0, none⟩ 1 1 (encPn ⟨nm, co, sk, fr, un⟩) (by rfl) rfl (by refine cells_far (w := (W5.alloc (.cells #[.string nm, .int .i64 co, .int .i64 sk, .int .i64 fr, .int .i64 un] 27)).drew) ?_ (show W5.heap.size < (W5.alloc (.cells #[.string nm, .int .i64 co, .int .i64 sk, .int .i64 fr, .int .i64 un] 27)).heap.size from by simp) hgrow1 (by simp [Value.ownBlock]); exact cells_new5 W5 W5.heap.size rfl 27 ⟨nm, co, sk, fr, un⟩) (encPn_one ⟨nm, co, sk, fr, un⟩) (by unfold maxLen; omega) (by omega) (by have := hgrow1.size; simp at this ⊢; omega) ?_; intro v2 w2' hown2 hgrow2 hn2))
                all_goals (
                  have OL1 := Lib.hid (World.ownsRow.lt hown1)
                  have BW : Below W5.heap.size W5 w2' := by
                    first
                      | exact (((Below.refl _ _).drew.grown hgrow1 (Nat.le_refl _) (fun k hk => by simp [Value.ownBlock] at hk)).alloc (by have h1 := hgrow1.size; simp at h1; exact h1) _).grown hgrow2 (by have h1 := hgrow1.size; simp at h1 ⊢; omega) (fun k hk => (OL1.out k hk).1)
                      | exact (((Below.refl _ _).alloc (Nat.le_refl _) _).drew.grown hgrow1 (by simp) (fun k hk => by simp [Value.ownBlock] at hk)).grown hgrow2 (by have h1 := hgrow1.size; simp at h1; omega) (fun k hk => (OL1.out k hk).1)
                  clear hown1 hgrow1 hn1 OL1
                  have O2 := Lib.hid hown2
                  have O2L := Lib.hid (World.ownsRow.lt hown2)
                  have hs2 := BW.size
                  have B6 := Lib.hid (B5.out.trans (BW.mono (by have := B5.out.size; omega)))
                  have BL6 := Lib.hid (BL5.out.trans (BW.mono (by have := BL5.out.size; omega)))
                  obtain ⟨k1, -⟩ := NT.out.below B6.out NT.out.2
                  clear hown2 hgrow2 hn2 BW q0 q1 q2 q3 q4
                  have AFTER : Hid (∀ v3 w6, w6.ownsRow W5.heap.size 27 5 v3 (j + 1) (flat encPn (ps.take j ++ ⟨nm, co, sk, fr, un⟩ :: ps.drop j)) → w2'.grownBy w6 v2.ownBlock → ∃ a2 c2, v3 = .slice a2 (j + 1) c2 ∧ w6.heap[x + 2]? = some (.cells #[.slice none 0 0] 25 (0, 0)) ∧ RegIn (w6.setCell ⟨x + 2, 0, none⟩ v3) a2 (j + 1) c2 (ps.take j ++ ⟨nm, co, sk, fr, un⟩ :: ps.drop j) ∧ Below x w (w6.setCell ⟨x + 2, 0, none⟩ v3)) := fun v3 w6 hown3 hgrow3 => by
                    have hX := B5.out.size
                    have B7 := B6.out.grown hgrow3 (by omega) (fun k hk => by have := (O2L.out k hk).1; omega)
                    have BL7 := BL6.out.grown hgrow3 (by omega) (fun k hk => by have := (O2L.out k hk).1; omega)
                    have el : (ps.take j ++ ⟨nm, co, sk, fr, un⟩ :: ps.drop j).length = j + 1 := by
                      rw [List.length_append, List.length_cons, List.length_take, List.length_drop, hn.out]; omega
                    have ag : AggsAt 27 5 encPn w6 W5.heap.size v3 (ps.take j ++ ⟨nm, co, sk, fr, un⟩ :: ps.drop j) := by
                      show w6.ownsRow _ _ 5 v3 (ps.take j ++ ⟨nm, co, sk, fr, un⟩ :: ps.drop j).length (flat encPn (ps.take j ++ ⟨nm, co, sk, fr, un⟩ :: ps.drop j))
                      rw [el]; exact hown3
                    have gs : w6.grownBy (w6.setCell ⟨x + 2, 0, none⟩ v3) (some (x + 2)) := gb_set v3 (gb_refl w6 _)
                    have ag6 := ag.grown gs (fun k hk => by cases hk; omega)
                    have hfit : ∀ y ∈ ps.take j ++ ⟨nm, co, sk, fr, un⟩ :: ps.drop j, y.nm.size ≤ maxLen := fun y hy => by
                      rcases List.mem_append.1 hy with hy | hy
                      · exact hft.out y (List.mem_of_mem_take hy)
                      · rcases List.mem_cons.1 hy with rfl | hy
                        · exact HPL.out
                        · exact hft.out y (List.mem_of_mem_drop hy)
                    obtain ⟨a2, c2, e2, r2⟩ := reg_of ag6 hfit
                    rw [el] at e2 r2
                    exact ⟨a2, c2, e2, RES.out _ B7, r2, BL7.setCell (p := ⟨x + 2, 0, none⟩) (by show x ≤ x + 2; omega) v3⟩
                  have FE : Hid (flat encPn (ps.take j ++ ⟨nm, co, sk, fr, un⟩ :: ps.drop j) = flat encPn (ps.take j) ++ encPn ⟨nm, co, sk, fr, un⟩ ++ flat encPn (ps.drop j)) := by
                    show _ = _
                    rw [flat_append, flat_cons, List.append_assoc]
                  have hcells := CL.out _ BL6.out
                  go_wp2_with (at_builtin; refine wpList_append_own _ rfl (.tmp 70) (.tmp 74) 23 rfl W5.heap.size 27 i0 _ 5 48 Tryz.underlying23 hi hz0 hz1 hz2 rfl (by decide) v2 (0 + j + 1) ([] ++ flat encPn (ps.take j) ++ encPn ⟨nm, co, sk, fr, un⟩) rfl O2.out ⟨g, o, none⟩ 0 0 (flat encPn (ps.drop j)) rfl ?qc1 ?qc2 ?qc3 ?qc4 ?qc5 ?qc6 ?_)
                  case qc1 => rw [flat_length encPn_len, List.length_drop, hn.out]; (try omega)
                  case qc2 => rw [List.drop_eq_nil_of_le (by rw [hn.out]; omega)]; intro i u hu; simp [flat] at hu
                  case qc3 => exact flat_oneCell encPn_one _
                  case qc4 => unfold maxLen; omega
                  case qc5 => omega
                  case qc6 => omega
                  intro v3 w6 hown3 hgrow3 hn3
                  obtain ⟨a2, c2, rfl, hr7, hreg, hbel⟩ := AFTER.out v3 w6 (by rw [FE.out]; have hh := hown3; (try simp only [Nat.zero_add, List.nil_append] at hh); rw [show j + 1 = j + 1 + 0 from by omega]; first | exact hh | (rw [List.append_assoc]; exact hh)) hgrow3
                  clear hown3 hgrow3 hn3
                  obtain ⟨c0, z0⟩ := cell_at hr7 0
                  have p0 := (cell_at (set_at (i := 0) (.slice a2 (j + 1) c2) hr7) 0).1
                  have HREG := Lib.hid hreg
                  have HBEL := Lib.hid hbel
                  clear hreg hbel hr7
                  go_wp2
                  exact bodyPost_ret (v := .tuple #[.agg #[.slice a2 (j + 1) c2], .int .i64 0]) (by simp [results, Tryz.results21, go_sem, p0]) rfl ⟨_, _, _, rfl, HREG.out, by rw [hx]; exact HBEL.out⟩)
              · have hcq2 : ¬ ((c : Int) = (j : Int)) := by omega
                go_wp2
                go_region_held3 (fun W => W.cell? ⟨x, 0, none⟩ = some (.slice (some ⟨g, o, none⟩) j c) ∧ W.cell? ⟨x + 1, 0, none⟩ = some (.string nm) ∧ W.cell? ⟨x + 1, 1, none⟩ = some (.int .i64 co) ∧ W.cell? ⟨x + 1, 2, none⟩ = some (.int .i64 sk) ∧ W.cell? ⟨x + 1, 3, none⟩ = some (.int .i64 fr) ∧ W.cell? ⟨x + 1, 4, none⟩ = some (.int .i64 un))
                  (first | go_keep | exact six_alloc (p := ⟨nm, co, sk, fr, un⟩) (by assumption) _ | assumption | exact six_grown (p := ⟨nm, co, sk, fr, un⟩) (by assumption) hgrow1 (fun k hk => by simp [Value.ownBlock] at hk) | exact six_grown (p := ⟨nm, co, sk, fr, un⟩) (by assumption) hgrow2 (fun k hk => by have := (World.ownsRow.lt hown1 _ hk).1; omega))
                  (first
                    | (refine step_app (by rfl) (.const (.slice none 0 0)) (.tmp 65) 23 (by rfl) W5.heap.size 27 i0 _ 5 48 Tryz.underlying23 hi hz0 hz1 hz2 rfl (by decide) (.slice none 0 0) 0 [] (by rfl) (World.ownsRow_nil _ _ _ _) ⟨g, o, none⟩ j c (flat encPn (ps.take j)) (by rfl) LP.out (NW1.out _ (by repeat (first | exact Below.refl _ _ | apply Below.drew | apply below_drewN | refine Below.alloc ?_ (by simp) _))) (flat_oneCell encPn_one _) (by unfold maxLen; omega) (by omega) (by simp) ?_; intro v1 w1 hown1 hgrow1 hn1)
                    | (refine step_app (by rfl) (.tmp 66) (.tmp 68) 23 (by rfl) W5.heap.size 27 i0 _ 5 48 Tryz.underlying23 hi hz0 hz1 hz2 rfl (by decide) v1 (0 + j) ([] ++ flat encPn (ps.take j)) (by rfl) (hown1.alloc _) ⟨w1.heap.size, 0, none⟩ 1 1 (encPn ⟨nm, co, sk, fr, un⟩) (by rfl) rfl (cells_new5 _ _ rfl _ ⟨nm, co, sk, fr, un⟩) (encPn_one ⟨nm, co, sk, fr, un⟩) (by unfold maxLen; omega) (by omega) (by have := hgrow1.size; simp at this ⊢; omega) ?_; intro v2 w2' hown2 hgrow2 hn2)
                    | (refine step_app (by rfl) (.tmp 66) (.tmp 68) 23 (by rfl) W5.heap.size 27 i0 _ 5 48 Tryz.underlying23 hi hz0 hz1 hz2 rfl (by decide) v1 (0 + j) ([] ++ flat encPn (ps.take j)) (by rfl) hown1 ⟨W5.heap.size, 0, none⟩ 1 1 (encPn ⟨nm, co, sk, fr, un⟩) (by rfl) rfl (by refine cells_far (w := (W5.alloc (.cells #[.string nm, .int .i64 co, .int .i64 sk, .int .i64 fr, .int .i64 un] 27)).drew) ?_ (show W5.heap.size < (W5.alloc (.cells #[.string nm, .int .i64 co, .int .i64 sk, .int .i64 fr, .int .i64 un] 27)).heap.size from by simp) hgrow1 (by simp [Value.ownBlock]); exact cells_new5 W5 W5.heap.size rfl 27 ⟨nm, co, sk, fr, un⟩) (encPn_one ⟨nm, co, sk, fr, un⟩) (by unfold maxLen; omega) (by omega) (by have := hgrow1.size; simp at this ⊢; omega) ?_; intro v2 w2' hown2 hgrow2 hn2))
                all_goals (
                  have OL1 := Lib.hid (World.ownsRow.lt hown1)
                  have BW : Below W5.heap.size W5 w2' := by
                    first
                      | exact (((Below.refl _ _).drew.grown hgrow1 (Nat.le_refl _) (fun k hk => by simp [Value.ownBlock] at hk)).alloc (by have h1 := hgrow1.size; simp at h1; exact h1) _).grown hgrow2 (by have h1 := hgrow1.size; simp at h1 ⊢; omega) (fun k hk => (OL1.out k hk).1)
                      | exact (((Below.refl _ _).alloc (Nat.le_refl _) _).drew.grown hgrow1 (by simp) (fun k hk => by simp [Value.ownBlock] at hk)).grown hgrow2 (by have h1 := hgrow1.size; simp at h1; omega) (fun k hk => (OL1.out k hk).1)
                  clear hown1 hgrow1 hn1 OL1
                  have O2 := Lib.hid hown2
                  have O2L := Lib.hid (World.ownsRow.lt hown2)
                  have hs2 := BW.size
                  have B6 := Lib.hid (B5.out.trans (BW.mono (by have := B5.out.size; omega)))
                  have BL6 := Lib.hid (BL5.out.trans (BW.mono (by have := BL5.out.size; omega)))
                  obtain ⟨k1, -⟩ := NT.out.below B6.out NT.out.2
                  clear hown2 hgrow2 hn2 BW q0 q1 q2 q3 q4
                  have AFTER : Hid (∀ v3 w6, w6.ownsRow W5.heap.size 27 5 v3 (j + 1) (flat encPn (ps.take j ++ ⟨nm, co, sk, fr, un⟩ :: ps.drop j)) → w2'.grownBy w6 v2.ownBlock → ∃ a2 c2, v3 = .slice a2 (j + 1) c2 ∧ w6.heap[x + 2]? = some (.cells #[.slice none 0 0] 25 (0, 0)) ∧ RegIn (w6.setCell ⟨x + 2, 0, none⟩ v3) a2 (j + 1) c2 (ps.take j ++ ⟨nm, co, sk, fr, un⟩ :: ps.drop j) ∧ Below x w (w6.setCell ⟨x + 2, 0, none⟩ v3)) := fun v3 w6 hown3 hgrow3 => by
                    have hX := B5.out.size
                    have B7 := B6.out.grown hgrow3 (by omega) (fun k hk => by have := (O2L.out k hk).1; omega)
                    have BL7 := BL6.out.grown hgrow3 (by omega) (fun k hk => by have := (O2L.out k hk).1; omega)
                    have el : (ps.take j ++ ⟨nm, co, sk, fr, un⟩ :: ps.drop j).length = j + 1 := by
                      rw [List.length_append, List.length_cons, List.length_take, List.length_drop, hn.out]; omega
                    have ag : AggsAt 27 5 encPn w6 W5.heap.size v3 (ps.take j ++ ⟨nm, co, sk, fr, un⟩ :: ps.drop j) := by
                      show w6.ownsRow _ _ 5 v3 (ps.take j ++ ⟨nm, co, sk, fr, un⟩ :: ps.drop j).length (flat encPn (ps.take j ++ ⟨nm, co, sk, fr, un⟩ :: ps.drop j))
                      rw [el]; exact hown3
                    have gs : w6.grownBy (w6.setCell ⟨x + 2, 0, none⟩ v3) (some (x + 2)) := gb_set v3 (gb_refl w6 _)
                    have ag6 := ag.grown gs (fun k hk => by cases hk; omega)
                    have hfit : ∀ y ∈ ps.take j ++ ⟨nm, co, sk, fr, un⟩ :: ps.drop j, y.nm.size ≤ maxLen := fun y hy => by
                      rcases List.mem_append.1 hy with hy | hy
                      · exact hft.out y (List.mem_of_mem_take hy)
                      · rcases List.mem_cons.1 hy with rfl | hy
                        · exact HPL.out
                        · exact hft.out y (List.mem_of_mem_drop hy)
                    obtain ⟨a2, c2, e2, r2⟩ := reg_of ag6 hfit
                    rw [el] at e2 r2
                    exact ⟨a2, c2, e2, RES.out _ B7, r2, BL7.setCell (p := ⟨x + 2, 0, none⟩) (by show x ≤ x + 2; omega) v3⟩
                  have FE : Hid (flat encPn (ps.take j ++ ⟨nm, co, sk, fr, un⟩ :: ps.drop j) = flat encPn (ps.take j) ++ encPn ⟨nm, co, sk, fr, un⟩ ++ flat encPn (ps.drop j)) := by
                    show _ = _
                    rw [flat_append, flat_cons, List.append_assoc]
                  have hcells := CL.out _ BL6.out
                  go_wp2_with (at_builtin; refine wpList_append_own _ rfl (.tmp 70) (.tmp 74) 23 rfl W5.heap.size 27 i0 _ 5 48 Tryz.underlying23 hi hz0 hz1 hz2 rfl (by decide) v2 (0 + j + 1) ([] ++ flat encPn (ps.take j) ++ encPn ⟨nm, co, sk, fr, un⟩) rfl O2.out ⟨g, o + j * 5, none⟩ 0 (c - j) (flat encPn (ps.drop j)) rfl ?qc1 ?qc2 ?qc3 ?qc4 ?qc5 ?qc6 ?_)
                  case qc1 => rw [flat_length encPn_len, List.length_drop, hn.out]; (try omega)
                  case qc2 => exact cells_news (cells_drop hcells encPn_len j (by rw [hn.out]; exact hQN))
                  case qc3 => exact flat_oneCell encPn_one _
                  case qc4 => unfold maxLen; omega
                  case qc5 => omega
                  case qc6 => omega
                  intro v3 w6 hown3 hgrow3 hn3
                  obtain ⟨a2, c2, rfl, hr7, hreg, hbel⟩ := AFTER.out v3 w6 (by rw [FE.out]; have hh := hown3; (try simp only [Nat.zero_add, List.nil_append] at hh); rw [show j + 1 = j + 1 + 0 from by omega]; first | exact hh | (rw [List.append_assoc]; exact hh)) hgrow3
                  clear hown3 hgrow3 hn3
                  obtain ⟨c0, z0⟩ := cell_at hr7 0
                  have p0 := (cell_at (set_at (i := 0) (.slice a2 (j + 1) c2) hr7) 0).1
                  have HREG := Lib.hid hreg
                  have HBEL := Lib.hid hbel
                  clear hreg hbel hr7
                  go_wp2
                  exact bodyPost_ret (v := .tuple #[.agg #[.slice a2 (j + 1) c2], .int .i64 0]) (by simp [results, Tryz.results21, go_sem, p0]) rfl ⟨_, _, _, rfl, HREG.out, by rw [hx]; exact HBEL.out⟩)
    · have hA : addP ps ⟨nm, co, sk, fr, un⟩ = ([], F) := by unfold addP; rw [if_neg (by simp [hE]), if_pos (by rw [hF]; exact f0), hF]
      rw [hR] at hA
      obtain ⟨rfl, rfl⟩ : R1 = [] ∧ F = R2 := by injection hA with a b; exact ⟨a, b.symm⟩
      have TF : (F == 0) = false := beq_eq_false_iff_ne.2 f0
      clear hA hR hF h f0 hE
      obtain ⟨k1, -⟩ := NT.out
      obtain ⟨q0, q1, q2, q3, q4, -⟩ := PT.out
      dsimp only at q0 q1 q2 q3 q4
      go_enter Tryz.func21, Tryz.ntmps21
      go_wp2_with fail
      refine CK.out.mono ?_; rintro e w2 ⟨rfl, b2⟩
      have B2 := Lib.hid b2
      have BL2 := Lib.hid (BX.out.trans (b2.mono (by have := BX.out.size; omega)))
      obtain ⟨k1, -⟩ := NT.out.below b2 NT.out.2
      obtain ⟨q0, q1, q2, q3, q4, -⟩ := PT.out.below b2 PT.out.2.2.2.2.2
      dsimp only at q0 q1 q2 q3 q4
      clear b2
      go_wp2_with fail
      refine (FT.out _).mono ?_; rintro e w3 ⟨rfl, b3⟩
      have B3 := Lib.hid (B2.out.trans (b3.mono B2.out.size))
      have BL3 := Lib.hid (BL2.out.trans (b3.mono (by have := BL2.out.size; omega)))
      obtain ⟨k1, -⟩ := NT.out.below B3.out NT.out.2
      obtain ⟨q0, q1, q2, q3, q4, -⟩ := PT.out.below B3.out PT.out.2.2.2.2.2
      dsimp only at q0 q1 q2 q3 q4
      clear b3
      have hr3 := RES.out _ B3.out
      obtain ⟨c0, z0⟩ := cell_at hr3 0
      have e1 := set_at (i := 0) (.slice none 0 0) hr3
      have p0 := (cell_at e1 0).1
      have BE := Lib.hid (BL3.out.setCell (p := ⟨x + 2, 0, none⟩) (by show x ≤ x + 2; omega) (.slice none 0 0))
      clear hr3 e1
      go_wp2
      exact bodyPost_ret (v := .tuple #[.agg #[.slice none 0 0], .int .i64 F]) (by simp [results, Tryz.results21, go_sem, p0]) rfl ⟨_, _, _, rfl, reg_nil _, by rw [hx]; exact BE.out⟩
  · have hA : addP ps ⟨nm, co, sk, fr, un⟩ = ([], E) := by unfold addP; rw [if_pos (by rw [hE]; exact e0), hE]
    rw [hR] at hA
    obtain ⟨rfl, rfl⟩ : R1 = [] ∧ E = R2 := by injection hA with a b; exact ⟨a, b.symm⟩
    have TE : (E == 0) = false := beq_eq_false_iff_ne.2 e0
    clear hA hR hF h e0 hE
    obtain ⟨k1, -⟩ := NT.out
    obtain ⟨q0, q1, q2, q3, q4, -⟩ := PT.out
    dsimp only at q0 q1 q2 q3 q4
    go_enter Tryz.func21, Tryz.ntmps21
    go_wp2_with fail
    refine CK.out.mono ?_; rintro e w2 ⟨rfl, b2⟩
    have B2 := Lib.hid b2
    have BL2 := Lib.hid (BX.out.trans (b2.mono (by have := BX.out.size; omega)))
    obtain ⟨k1, -⟩ := NT.out.below b2 NT.out.2
    obtain ⟨q0, q1, q2, q3, q4, -⟩ := PT.out.below b2 PT.out.2.2.2.2.2
    dsimp only at q0 q1 q2 q3 q4
    clear b2
    have hr3 := RES.out _ B2.out
    obtain ⟨c0, z0⟩ := cell_at hr3 0
    have e1 := set_at (i := 0) (.slice none 0 0) hr3
    have p0 := (cell_at e1 0).1
    have BE := Lib.hid (BL2.out.setCell (p := ⟨x + 2, 0, none⟩) (by show x ≤ x + 2; omega) (.slice none 0 0))
    clear hr3 e1
    go_wp2
    exact bodyPost_ret (v := .tuple #[.agg #[.slice none 0 0], .int .i64 E]) (by simp [results, Tryz.results21, go_sem, p0]) rfl ⟨_, _, _, rfl, reg_nil _, by rw [hx]; exact BE.out⟩
end Go.Proofs.YthdjpmiohfaphaaGreatDoor.reg
