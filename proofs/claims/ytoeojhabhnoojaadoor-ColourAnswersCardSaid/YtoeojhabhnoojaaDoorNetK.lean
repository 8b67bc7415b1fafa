/- The walks of layer 3 on the networks that are made of numbers: names, One, the closure that adds a device. -/
import Derived.Test.YtoeojhabhnoojaaDoorNetJ
import Derived.Test.YtoeojhabhnoojaaDoorMkOne
import Derived.Deep.RegionHeld3
namespace Go.Proofs.YtoeojhabhnoojaaDoor.net
open Go.RowKit lex aggs kit deck

theorem letter_arr (k : Nat) (h1 : 1 ≤ k) (h6 : k ≤ 6) : (#[.string ⟨#[]⟩, .string ⟨#[76]⟩, .string ⟨#[81]⟩, .string ⟨#[68]⟩, .string ⟨#[69]⟩, .string ⟨#[83]⟩, .string ⟨#[71]⟩] : Array Value)[k]? = some (.string ⟨#[lett k]⟩) := by
  match k, h1, h6 with
  | 1, _, _ => rfl
  | 2, _, _ => rfl
  | 3, _, _ => rfl
  | 4, _, _ => rfl
  | 5, _, _ => rfl
  | 6, _, _ => rfl
theorem dev1 (w : World) (C : Array Value) (T : Nat) (o o' : Obj) : (((w.alloc (.cells C T)).alloc o).alloc o').heap[w.heap.size]? = some (.cells C T (0, 0)) := by
  have b := (below_box (w.alloc (.cells C T)) o).trans ((below_box _ o').mono (by simp))
  rw [b.block _ (by simp)]; exact heap_alloc_new w _
theorem dev2 (w : World) (C : Array Value) (T : Nat) (o o' : Obj) : (((w.alloc o).alloc (.cells C T)).alloc o').heap[w.heap.size + 1]? = some (.cells C T (0, 0)) := by
  have h := heap_alloc_new (w.alloc o) (.cells C T)
  rw [(below_box _ o').block _ (by simp)]
  simpa using h
theorem dev3 (w : World) (C : Array Value) (T : Nat) (o o' : Obj) : (((w.alloc o).alloc o').alloc (.cells C T)).heap[w.heap.size + 1 + 1]? = some (.cells C T (0, 0)) := by
  have h := heap_alloc_new ((w.alloc o).alloc o') (.cells C T)
  simpa using h
theorem gb_three (w : World) (o o' o'' : Obj) (row : Option Nat) : w.grownBy (((w.alloc o).alloc o').alloc o'') row := grown_alloc (grown_alloc (grown_alloc (gb_refl w row) o) o') o''
theorem cells5 {w : World} {b t : Nat} {y0 y1 y2 y3 y4 : Value} (h : w.heap[b]? = some (.cells #[y0, y1, y2, y3, y4] t (0, 0))) :
    w.cell? ⟨b, 0, none⟩ = some y0 ∧ w.cell? ⟨b, 1, none⟩ = some y1 ∧ w.cell? ⟨b, 2, none⟩ = some y2 ∧ w.cell? ⟨b, 3, none⟩ = some y3 ∧ w.cell? ⟨b, 4, none⟩ = some y4 ∧ w.frozen? ⟨b, 4, none⟩ = false :=
  ⟨(cell_at h 0).1, (cell_at h 1).1, (cell_at h 2).1, (cell_at h 3).1, (cell_at h 4).1, (cell_at h 4).2⟩
theorem infoDv : (Tryd.prog.info? 57).map (fun i => (i.zero, i.size, i.bytes)) = some (some (.agg #[.string ⟨#[]⟩, .int .i64 0, .int .i64 0, .int .i64 0, .int .i64 0]), 5, 48) := by kernel_rfl
theorem infoNd : (Tryd.prog.info? 67).map (fun i => (i.zero, i.size, i.bytes)) = some (some (.agg #[.string ⟨#[]⟩, .int .i64 0, .int .i64 0]), 3, 32) := by kernel_rfl
def AddPost (w0 _wr : World) (a : Option Addr) (len cap bd x : Nat) (M : Int) (vn : Value) (ns : List Nd) (ds : List Dv) (e : Ending) (w' : World) : Prop :=
  e = .returned (.tuple #[]) ∧ ∃ vd' ds', NB w0 w' a len cap bd x M vn vd' ns ds' ∧ GoodD ns.length ds' ∧ ds.length ≤ ds'.length ∧ (ds'.length : Int) ≤ M ∧ ((ds.length : Int) < M → ds'.length = ds.length + 1)
set_option maxRecDepth 100000 in
set_option maxHeartbeats 4000000 in
theorem add_is (w0 wr : World) (a : Option Addr) (len cap bd x k : Nat) (zs : List Int) (M : Nat) (vn vd : Value) (ns : List Nd) (ds : List Dv) (p q : Int) (h : NB w0 wr a len cap bd x M vn vd ns ds) (hr : IsRow .i64 w0 a len cap zs)
    (hM : M ≤ 20) (hds : ds.length ≤ M) (gd : GoodD ns.length ds) (k1 : 1 ≤ k) (k6 : k ≤ 6) (hits : itsB ns.length ⟨ByteArray.empty, k, p, q, 0⟩ = true) :
    Calls Tryd.prog 38 #[.int .i64 k, .int .i64 p, .int .i64 q, .pointer (some ⟨x + 1 + 1 + 1, 0, none⟩), .pointer (some ⟨x + 1, 0, none⟩), .pointer (some ⟨x, 0, none⟩)] wr (AddPost w0 wr a len cap bd x M vn ns ds) := by
  obtain ⟨T1, h1⟩ := h.ptr
  obtain ⟨T2, h2⟩ := h.lim
  obtain ⟨T4, h4⟩ := h.net
  have c1 : wr.cell? ⟨x, 0, none⟩ = some (.pointer (some ⟨bd, 0, none⟩)) := (cell_at h1 0).1
  have c2 : wr.cell? ⟨x + 1, 0, none⟩ = some (.int .i64 M) := (cell_at h2 0).1
  have c4 : wr.cell? ⟨x + 1 + 1 + 1, 1, none⟩ = some vd := (cell_at h4 1).1
  obtain ⟨av, cv, hvd, hvl⟩ := h.rd.length encDv_len
  subst hvd
  have H := Lib.hid h
  have HR := Lib.hid hr
  have GD := Lib.hid gd
  have HI := Lib.hid hits
  obtain ⟨m, hm⟩ : ∃ m, ds.length = m := ⟨_, rfl⟩
  rw [hm] at c4 hds
  have HM := Lib.hid hm
  have KC := Lib.hid (fun w' (b : Below wr.heap.size wr w') => (b.cell (p := ⟨x + 1 + 1 + 1, 1, none⟩) (lt_of_block h4)).trans c4)
  clear h hr gd hits h1 h2 h4 hvl
  by_cases hlt : m < M
  · have LA := letter_arr k k1 k6
    have NI := Lib.hid (fun w => name_is (lett k) m w (by omega))
    go_enter Tryd.func38, Tryd.ntmps38
    go_wp2_with fail
    rename_i K aK
    obtain ⟨i0, hi, hz0, hz1, hz2⟩ := info_parts infoDv
    have TAIL : ∀ (b A : Nat) (W : World), wr.grownBy W none → (∃ T, W.heap[b]? = some (.cells #[.string (nmB (lett k) m), .int .i64 k, .int .i64 p, .int .i64 q, .int .i64 0] T (0, 0))) → wr.heap.size ≤ b →
        K ⟨#[.int .i64 k, .int .i64 p, .int .i64 q, .pointer (some ⟨x + 1 + 1 + 1, 0, none⟩), .pointer (some ⟨x + 1, 0, none⟩), .pointer (some ⟨x, 0, none⟩), undef, undef, undef, .pointer (some ⟨b, 0, none⟩), .pointer (some ⟨x + 1 + 1 + 1, 1, none⟩), .slice av m cv, .int .i64 m, .int .i64 M, .bool false,
          .slice (some ⟨A, 0, none⟩) 7 7, .int .i64 k, .pointer (some ⟨A, k, none⟩), .string ⟨#[lett k]⟩, .pointer (some ⟨x + 1 + 1 + 1, 1, none⟩), .slice av m cv, .int .i64 m, .string (nmB (lett k) m), .int .i64 k, .int .i64 p, .int .i64 q,
          .agg #[.string (nmB (lett k) m), .int .i64 k, .int .i64 p, .int .i64 q, .int .i64 0], undef, undef, undef, undef, undef, undef, undef, undef, undef, undef, undef, undef], []⟩ W := by
      intro b A W hg hdev hb
      obtain ⟨T, hdev⟩ := hdev
      have hx4 := H.out.size
      have hbx := H.out.lt
      have hmi := H.out.mine
      have gW : Game w0 W bd a len cap := H.out.game.grown hg (by simp) (fun k hk => by cases hk)
      have GB := Lib.hid (hg.but (some bd))
      have N1 := Lib.hid (H.out.kept GB.out gW)
      have ON := Lib.hid (one_is gW HR.out 8 (by decide))
      obtain ⟨T1', h1'⟩ := N1.out.ptr
      have d1 : W.cell? ⟨x, 0, none⟩ = some (.pointer (some ⟨bd, 0, none⟩)) := (cell_at h1' 0).1
      have DV := Lib.hid hdev
      clear hdev gW h1' hg
      refine aK _ _ ?_
      go_wp2_with fail
      refine ON.out.mono ?_; rintro e W1 ⟨r, rfl, g1, gb1⟩
      have hd1 : W1.heap[b]? = some (.cells #[.string (nmB (lett k) m), .int .i64 k, .int .i64 p, .int .i64 q, .int .i64 0] T (0, 0)) := by rw [gb1.block b (lt_of_block DV.out) (by simp; omega)]; exact DV.out
      have N2 := Lib.hid (N1.out.kept gb1 g1)
      have GB2 := Lib.hid (GB.out.trans gb1)
      cases r
      · have DX := Lib.hid hd1
        have NX := N2
        clear hd1 gb1 g1 d1
        obtain ⟨Tn, hnet⟩ := NX.out.net
        have e1 : W1.cell? ⟨x + 1 + 1 + 1, 1, none⟩ = some (.slice av m cv) := by rw [← HM.out]; exact (cell_at hnet 1).1
        obtain ⟨y0, y1, y2, y3, y4, -⟩ := cells5 DX.out
        have HNF := Lib.hid (cell_at hnet 1).2
        have OW : Hid ((W1.alloc (.cells #[.string (nmB (lett k) m), .int .i64 k, .int .i64 p, .int .i64 q, .int .i64 0] 57)).ownsRow (x + 4) 57 5 (.slice av m cv) m (flat encDv ds)) := by
          have := AggsAt.alloc NX.out.rd (.cells #[.string (nmB (lett k) m), .int .i64 k, .int .i64 p, .int .i64 q, .int .i64 0] 57)
          unfold AggsAt at this
          rw [HM.out] at this; exact this
        have NXB : Hid (NB w0 (W1.alloc (.cells #[.string (nmB (lett k) m), .int .i64 k, .int .i64 p, .int .i64 q, .int .i64 0] 57)) a len cap bd x M vn (.slice av ds.length cv) ns ds) := NX.out.kept (grown_alloc (gb_refl _ _) _) (NX.out.game.alloc _)
        have hxs : x + 4 ≤ W1.heap.size := NX.out.size
        clear hnet
        go_wp2_with (at_builtin; go_must (refine wpList_append_own _ rfl (.tmp 34) (.tmp 36) 24 rfl (x + 4) 57 i0 _ 5 48 Tryd.underlying24 hi hz0 hz1 hz2 rfl (by decide) (.slice av m cv) m (flat encDv ds) rfl OW.out _ 1 1 (encDv ⟨nmB (lett k) m, k, p, q, 0⟩) rfl rfl ?qc1 ?qc2 ?qc3 ?qc4 ?qc5 ?_))
        case qc1 => exact cell_one (enc := encDv) (_k := 5) W1 _ _ ⟨nmB (lett k) m, k, p, q, 0⟩ rfl
        case qc2 => exact encDv_one _
        case qc3 => unfold maxLen; omega
        case qc4 => omega
        case qc5 => simp; omega
        intro v' W9 hown' hgrow hnil'
        obtain ⟨a9, c9, e9⟩ : ∃ a9 c9, v' = .slice a9 (m + 1) c9 := by
          obtain ⟨a9, c9, e, -⟩ := AggsAt.length (AggsAt.push (xs := ds) (x := ⟨nmB (lett k) m, k, p, q, 0⟩) (enc := encDv) (by rw [HM.out]; exact hown')) encDv_len
          exact ⟨a9, c9, by rw [e, List.length_append, HM.out]; rfl⟩
        subst e9
        have PD := Lib.hid (NXB.out.pushD (w' := W9) (x' := ⟨nmB (lett k) m, k, p, q, 0⟩) (by rw [HM.out]; exact hown') (by rw [HM.out]; exact hgrow))
        have hf9 : W9.frozen? ⟨x + 1 + 1 + 1, 1, none⟩ = false ∧ (∃ u, W9.cell? ⟨x + 1 + 1 + 1, 1, none⟩ = some u) := by
          obtain ⟨Tn, hnet⟩ := NXB.out.net
          have hne : some (x + 1 + 1 + 1) ≠ (Value.slice av m cv).ownBlock := fun e => by have := (World.ownsRow.lt OW.out _ e.symm).1; omega
          have hh : W9.heap[x + 1 + 1 + 1]? = some (.cells #[vn, .slice av ds.length cv] Tn (0, 0)) := by rw [hgrow.block _ (by simp; omega) hne]; exact hnet
          exact ⟨(cell_at hh 1).2, _, (cell_at hh 1).1⟩
        obtain ⟨hf9, u9, hu9⟩ := hf9
        clear hown' hgrow hnil'
        go_wp2
        go_end0
        refine ⟨rfl, _, ds ++ [⟨nmB (lett k) m, k, p, q, 0⟩], PD.out, GD.out.snoc (by show nmB (lett k) m = nmB (lett k) ds.length; rw [HM.out]) (by dsimp only; omega) HI.out (by dsimp only; omega), by simp, by rw [List.length_append, HM.out]; simp; omega, fun _ => by simp⟩
      · have DX1 := Lib.hid hd1
        have NE := Lib.hid (g1.next HR.out 2 (by decide))
        obtain ⟨T1', h1'⟩ := N2.out.ptr
        have d2 : W1.cell? ⟨x, 0, none⟩ = some (.pointer (some ⟨bd, 0, none⟩)) := (cell_at h1' 0).1
        clear hd1 gb1 g1 d1 h1'
        go_wp2_with fail
        refine NE.out.mono ?_; rintro e W2 ⟨v, rfl, v0, v1, g2, gb2⟩
        have hd2 : W2.heap[b]? = some (.cells #[.string (nmB (lett k) m), .int .i64 k, .int .i64 p, .int .i64 q, .int .i64 0] T (0, 0)) := by rw [gb2.block b (lt_of_block DX1.out) (by simp; omega)]; exact DX1.out
        obtain ⟨-, -, -, -, z4, zf⟩ := cells5 hd2
        obtain ⟨W3, hW3⟩ : ∃ W3, W2.setCell ⟨b, 4, none⟩ (.int .i64 (1 + v)) = W3 := ⟨_, rfl⟩
        have hv2 : v < 2 := by omega
        have DX : Hid (W3.heap[b]? = some (.cells #[.string (nmB (lett k) m), .int .i64 k, .int .i64 p, .int .i64 q, .int .i64 (1 + v)] T (0, 0))) := by
          show _ = _
          rw [← hW3]; exact set_at _ hd2
        have NX : Hid (NB w0 W3 a len cap bd x M vn (.slice av ds.length cv) ns ds) := by
          show NB _ _ _ _ _ _ _ _ _ _ _ _
          rw [← hW3]
          exact H.out.kept (gb_new _ (GB2.out.trans gb2) hb) (g2.grown (gb_set (b := b) _ (gb_refl W2 _)) (by simp; omega) (fun k hk => by cases hk; omega))
        clear hd2 gb2 g2 d2 v1
        obtain ⟨Tn, hnet⟩ := NX.out.net
        have e1 : W3.cell? ⟨x + 1 + 1 + 1, 1, none⟩ = some (.slice av m cv) := by rw [← HM.out]; exact (cell_at hnet 1).1
        obtain ⟨y0, y1, y2, y3, y4, -⟩ := cells5 DX.out
        have HNF := Lib.hid (cell_at hnet 1).2
        have OW : Hid ((W3.alloc (.cells #[.string (nmB (lett k) m), .int .i64 k, .int .i64 p, .int .i64 q, .int .i64 (1 + v)] 57)).ownsRow (x + 4) 57 5 (.slice av m cv) m (flat encDv ds)) := by
          have := AggsAt.alloc NX.out.rd (.cells #[.string (nmB (lett k) m), .int .i64 k, .int .i64 p, .int .i64 q, .int .i64 (1 + v)] 57)
          unfold AggsAt at this
          rw [HM.out] at this; exact this
        have NXB : Hid (NB w0 (W3.alloc (.cells #[.string (nmB (lett k) m), .int .i64 k, .int .i64 p, .int .i64 q, .int .i64 (1 + v)] 57)) a len cap bd x M vn (.slice av ds.length cv) ns ds) := NX.out.kept (grown_alloc (gb_refl _ _) _) (NX.out.game.alloc _)
        have hxs : x + 4 ≤ W3.heap.size := NX.out.size
        clear hnet
        go_wp2_with (at_builtin; go_must (refine wpList_append_own _ rfl (.tmp 34) (.tmp 36) 24 rfl (x + 4) 57 i0 _ 5 48 Tryd.underlying24 hi hz0 hz1 hz2 rfl (by decide) (.slice av m cv) m (flat encDv ds) rfl OW.out _ 1 1 (encDv ⟨nmB (lett k) m, k, p, q, (1 + v)⟩) rfl rfl ?qc1 ?qc2 ?qc3 ?qc4 ?qc5 ?_))
        case qc1 => exact cell_one (enc := encDv) (_k := 5) W3 _ _ ⟨nmB (lett k) m, k, p, q, (1 + v)⟩ rfl
        case qc2 => exact encDv_one _
        case qc3 => unfold maxLen; omega
        case qc4 => omega
        case qc5 => simp; omega
        intro v' W9 hown' hgrow hnil'
        obtain ⟨a9, c9, e9⟩ : ∃ a9 c9, v' = .slice a9 (m + 1) c9 := by
          obtain ⟨a9, c9, e, -⟩ := AggsAt.length (AggsAt.push (xs := ds) (x := ⟨nmB (lett k) m, k, p, q, (1 + v)⟩) (enc := encDv) (by rw [HM.out]; exact hown')) encDv_len
          exact ⟨a9, c9, by rw [e, List.length_append, HM.out]; rfl⟩
        subst e9
        have PD := Lib.hid (NXB.out.pushD (w' := W9) (x' := ⟨nmB (lett k) m, k, p, q, (1 + v)⟩) (by rw [HM.out]; exact hown') (by rw [HM.out]; exact hgrow))
        have hf9 : W9.frozen? ⟨x + 1 + 1 + 1, 1, none⟩ = false ∧ (∃ u, W9.cell? ⟨x + 1 + 1 + 1, 1, none⟩ = some u) := by
          obtain ⟨Tn, hnet⟩ := NXB.out.net
          have hne : some (x + 1 + 1 + 1) ≠ (Value.slice av m cv).ownBlock := fun e => by have := (World.ownsRow.lt OW.out _ e.symm).1; omega
          have hh : W9.heap[x + 1 + 1 + 1]? = some (.cells #[vn, .slice av ds.length cv] Tn (0, 0)) := by rw [hgrow.block _ (by simp; omega) hne]; exact hnet
          exact ⟨(cell_at hh 1).2, _, (cell_at hh 1).1⟩
        obtain ⟨hf9, u9, hu9⟩ := hf9
        clear hown' hgrow hnil'
        go_wp2
        go_end0
        refine ⟨rfl, _, ds ++ [⟨nmB (lett k) m, k, p, q, (1 + v)⟩], PD.out, GD.out.snoc (by show nmB (lett k) m = nmB (lett k) ds.length; rw [HM.out]) (by dsimp only; omega) HI.out (by dsimp only; omega), by simp, by rw [List.length_append, HM.out]; simp; omega, fun _ => by simp⟩
    have c4a : ∀ o, (wr.alloc o).cell? ⟨x + 1 + 1 + 1, 1, none⟩ = some (.slice av m cv) := fun o => KC.out _ (below_box _ _)
    have c4b : ∀ o o', ((wr.alloc o).alloc o').cell? ⟨x + 1 + 1 + 1, 1, none⟩ = some (.slice av m cv) := fun o o' => KC.out _ ((below_box _ _).trans ((below_box _ _).mono (by simp)))
    have c4c : ∀ o o' o'', (((wr.alloc o).alloc o').alloc o'').cell? ⟨x + 1 + 1 + 1, 1, none⟩ = some (.slice av m cv) := fun o o' o'' => KC.out _ ((below_box _ _).trans (((below_box _ _).mono (by simp)).trans ((below_box _ _).mono (by simp; omega))))
    have hk0 : (0 : Int) ≤ k := by omega
    have hk7 : (k : Int) < 7 := by omega
    go_region_with (go_at_call 36; refine (NI.out _).mono ?_; rintro e w7 ⟨rfl, rfl⟩)
    all_goals (
      refine TAIL _ _ _ ?_ ?_ ?_
      · first | exact gb_drew (gb_three _ _ _ _ _) | exact gb_drewN _ (gb_three _ _ _ _ _) | exact gb_three _ _ _ _ _
      · first | exact ⟨_, dev3 _ _ _ _ _⟩ | exact ⟨_, dev2 _ _ _ _ _⟩ | exact ⟨_, dev1 _ _ _ _ _⟩
      · omega)
  · go_enter Tryd.func38, Tryd.ntmps38
    go_wp2
    refine bodyPost_ret (results_none rfl _ _ _) rfl ?_
    exact ⟨rfl, _, ds, H.out, GD.out, Nat.le_refl _, by rw [HM.out]; omega, fun h => by rw [HM.out] at h; omega⟩
end Go.Proofs.YtoeojhabhnoojaaDoor.net
