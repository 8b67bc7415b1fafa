/- For every list of numbers ModeltextLines returns true: lines of devices may be moved among those of nodes, as long as their nodes stand before them. Condition: the tables hold what the program's text lays (the card ties that). -/
import Derived.Test.YtdgllaiejhnjmaaDoorMdX
import Derived.Test.YtdgllaiejhnjmaaDoorMdT
import Derived.Test.YtdgllaiejhnjmaaDoorMdD
import Derived.Test.YtdgllaiejhnjmaaDoorMdW
import Derived.Test.YtdgllaiejhnjmaaDoorNetN
import Derived.Test.YtdgllaiejhnjmaaDoorInv3
namespace Go.Proofs.YtdgllaiejhnjmaaDoor.mod
open Go.RowKit lex net aggs kit strs deck

theorem cells_sub {α : Type} {enc : α → List Value} {k : Nat} {W : World} {b off : Nat} {xs : List α} (h : CellsAt enc k W b off xs) (hk : ∀ x, (enc x).length = k) (i : Nat) (hi : i < xs.length) : CellsAt enc k W b (off + i * k) [xs[i]] := by
  intro j u hu
  rw [flat_one] at hu
  have hj : j < k := by rw [← hk xs[i]]; exact (List.getElem?_eq_some_iff.1 hu).1
  rw [Nat.add_assoc]
  exact h.get hk i hi j hj u hu
theorem chk_single {ns : List Nd} {ds : List Dv} (hc : chk ns ds = 0) (i : Nat) (hi : i < ns.length) : chk [ns[i]] [] = 0 := by
  have h0 := nds_ok hc i hi
  unfold ndsE at h0
  rw [List.getD_eq_getElem?_getD, List.getElem?_eq_getElem hi, Option.getD_some] at h0
  obtain ⟨q0, -, p1, p2, p3, p4⟩ := ndE_parts h0
  have h1 : fe (ndsE [ns[i]]) [ns[i]].length = 0 := fe_ok fun j hj => by
    obtain rfl : j = 0 := by simpa using hj
    unfold ndsE ndE
    simp only [List.getD_cons_zero, List.take_zero]
    rw [if_pos q0, if_pos (show fnd (nmsN []) _ = -1 from rfl), if_pos ⟨p1, p2, p3, p4⟩]
  unfold chk
  rw [if_neg (by simp), if_pos h1]; rfl
theorem printT_one (x : Nd) : printT [x] [] = Lib.join (ndW x) [32] ++ [10] := by
  show textOf [Lib.join (ndW x) [32]] = _
  rw [textOf_one]
theorem printT_dev (ns : List Nd) (d : Dv) : printT ns [d] = printT ns [] ++ (Lib.join (dvW ns d) [32] ++ [10]) := by
  show textOf (((ns.map ndW ++ [dvW ns d])).map fun ws => Lib.join ws [32]) = textOf ((ns.map ndW ++ []).map fun ws => Lib.join ws [32]) ++ _
  rw [List.append_nil, List.map_append, List.map_cons, List.map_nil, textOf_snoc]
theorem tail_of {h x : List UInt8} {n : Nat} (hn : n = h.length + x.length) : (bs (h ++ x)).extract (bs h).size n = bs x := by
  rw [extract_bs, bs_data, bs_size, hn]
  congr 1
  rw [List.drop_left]
  have : h.length + x.length - h.length = x.length := by omega
  rw [this, List.take_length]
theorem tx_size {W : List (List (List UInt8))} (h : ∀ ws ∈ W, Ln ws) : (tx W).length ≤ 133 * W.length := text_len h
def DTw (x gn on N cn gd od M cd v k W4S : Nat) : Nat → Value → World → Prop
  | 0, u, _ => u = .pointer (some ⟨x, 0, none⟩)
  | 1, u, _ => u = .slice (some ⟨gn, on, none⟩) N cn
  | 2, u, _ => u = .int .i64 (v : Int)
  | 3, u, _ => u = .int .i64 ((v + 1 : Nat) : Int)
  | 4, u, _ => u = .slice (some ⟨gn, on, none⟩) (v + 1) cn
  | 5, u, _ => u = .pointer (some ⟨x, 1, none⟩)
  | 6, u, _ => u = .slice (some ⟨gd, od, none⟩) M cd
  | 7, u, _ => u = .int .i64 (k : Int)
  | 8, u, _ => u = .int .i64 (k : Int)
  | 9, u, _ => u = .int .i64 ((k + 1 : Nat) : Int)
  | 10, u, _ => u = .slice (some ⟨gd, od + k * 5, none⟩) 1 (cd - k)
  | 11, u, _ => u = .agg #[.slice (some ⟨gn, on, none⟩) (v + 1) cn, .slice (some ⟨gd, od + k * 5, none⟩) 1 (cd - k)]
  | 12, u, W => ∃ B y0 y1, u = .pointer (some ⟨B, 0, none⟩) ∧ W.heap[B]? = some (.cells #[y0, y1] 26 (0, 0)) ∧ W4S ≤ B
  | _, _, _ => True
theorem DTw.kept {x gn on N cn gd od M cd v k W4S : Nat} {W W' : World} (hb : Below W.heap.size W W') : ∀ j u, DTw x gn on N cn gd od M cd v k W4S j u W → DTw x gn on N cn gd od M cd v k W4S j u W'
  | 0, _, h | 1, _, h | 2, _, h | 3, _, h | 4, _, h | 5, _, h | 6, _, h | 7, _, h | 8, _, h | 9, _, h | 10, _, h | 11, _, h | 13, _, h | _ + 14, _, h => h
  | 12, _, ⟨B, y0, y1, h1, h2, h3⟩ => ⟨B, y0, y1, h1, by rw [hb.block B (lt_of_block h2)]; exact h2, h3⟩
theorem DTw.kept2 {x gn on N cn gd od M cd v k W4S : Nat} {W W5 : World} {B T : Nat} {y0 y1 u0 u1 : Value} (e : W.heap[B]? = some (.cells #[y0, y1] T (0, 0))) (e5 : W5.heap[B]? = some (.cells #[u0, u1] T (0, 0))) (hk : ∀ B', B' ≠ B → W5.heap[B']? = W.heap[B']?) : ∀ j u, DTw x gn on N cn gd od M cd v k W4S j u W → DTw x gn on N cn gd od M cd v k W4S j u W5
  | 0, _, h | 1, _, h | 2, _, h | 3, _, h | 4, _, h | 5, _, h | 6, _, h | 7, _, h | 8, _, h | 9, _, h | 10, _, h | 11, _, h | 13, _, h | _ + 14, _, h => h
  | 12, _, ⟨B', z0, z1, h1, h2, h3⟩ => by
    by_cases q : B' = B
    · subst q
      rw [e] at h2
      injection h2 with h2
      injection h2 with h2 h4
      subst h4
      exact ⟨B', u0, u1, h1, e5, h3⟩
    · exact ⟨B', z0, z1, h1, by rw [hk B' q]; exact h2, h3⟩
set_option maxRecDepth 100000 in
set_option maxHeartbeats 8000000 in
theorem lines_walk (a : Option Addr) (len cap : Nat) (zs : List Int) (w : World) (hr : IsRow .i64 w a len cap zs) (h : MTabs w) :
    Calls Tryd.prog 5 #[.slice a len cap] w fun e w' => e = .returned (.bool true) ∧ Below w.heap.size w w' := by
  have hl : len ≤ 9223372036854775807 := by
    rcases hr with ⟨_, h, _⟩ | ⟨_, _, h1, h2, _⟩
    · omega
    · unfold maxLen at h2; omega
  have H := Lib.hid h
  have HR := Lib.hid hr
  clear h hr
  by_cases h4 : len ≤ 400
  · have t1 : decide ((len : Int) ≤ 400) = true := decide_eq_true (by omega)
    go_enter Tryd.func5, Tryd.ntmps5
    go_wp2_with fail
    refine (few_any _ _ _ _ hl).mono ?_; rintro e w' ⟨rfl, rfl⟩
    go_wp2_with fail
    refine (newg_any _ _ _ _).mono ?_; rintro e w1 ⟨rfl, g1⟩
    have hbw := g1.lt
    obtain ⟨bd, hbd⟩ : ∃ b, w.heap.size = b := ⟨_, rfl⟩
    have HB := Lib.hid hbd
    rw [hbd] at hbw g1 ⊢
    clear hbd
    go_wp2_with fail
    refine (network_is (nodes := 6) (devices := 10) g1 HR.out (by decide) (by decide) (by decide) (by decide)).mono ?_
    rintro e W2 ⟨vn, vd, ns, ds, rfl, g2, rn, rd, gn0, gd0, n1, n2, d1, d2⟩
    obtain ⟨an, cn, ad, cd, rfl, rfl, ni, z1, z2⟩ := rows_net rn rd (by omega) gn0 gd0 hbw
    have hch := good_chk (by omega) (by omega) gn0 gd0
    have CH := Lib.hid hch
    obtain ⟨gn, on, rfl, -, -⟩ := ni.nin.some (by omega)
    obtain ⟨gd, od, rfl, -, -⟩ := ni.din.some (by omega)
    obtain ⟨N, hN⟩ : ∃ N, ns.length = N := ⟨_, rfl⟩
    obtain ⟨M, hM⟩ : ∃ M, ds.length = M := ⟨_, rfl⟩
    rw [hN] at n1 n2 ni ⊢
    rw [hM] at d1 d2 ni ⊢
    have HN := Lib.hid hN
    have HM := Lib.hid hM
    have hNc := ni.ncap
    have hMc := ni.dcap
    have bx3 := below_box W2 (.cells #[.slice (some ⟨gn, on, none⟩) N cn, .slice (some ⟨gd, od, none⟩) M cd] 26)
    obtain ⟨W3, hW3⟩ : ∃ W3, W2.alloc (.cells #[.slice (some ⟨gn, on, none⟩) N cn, .slice (some ⟨gd, od, none⟩) M cd] 26) = W3 := ⟨_, rfl⟩
    obtain ⟨g, hg⟩ : ∃ g, W2.heap.size = g := ⟨_, rfl⟩
    have hNT := NtAt.new W2 (.slice (some ⟨gn, on, none⟩) N cn) (.slice (some ⟨gd, od, none⟩) M cd) 26
    rw [hg] at hNT
    have bw3 := g2.below.trans (bx3.mono g2.below.size)
    have ni3 := ni.below bx3
    rw [hW3] at hNT bw3 ni3
    have BW3 := Lib.hid bw3
    have NT := Lib.hid hNT
    have NI := Lib.hid ni3
    have HMT := Lib.hid (fun W (b : Below W3.heap.size W3 W) => H.out.below (BW3.out.trans (b.mono BW3.out.size)))
    have NTF0 := Lib.hid (fun W (b : Below W3.heap.size W3 W) => NT.out.below b NT.out.2.2)
    have NIF := Lib.hid (fun W (b : Below W3.heap.size W3 W) => NI.out.below b)
    have CND : Hid (∀ W, Below W3.heap.size W3 W → CellsAt encNd 3 W gn on ns) := fun W b => by
      rcases (NIF.out W b).nin with ⟨e, _⟩ | ⟨g', o', e, _, hc⟩
      · cases e
      · injection e with e; injection e with e1 e2; subst e1 e2; exact hc
    have CDV : Hid (∀ W, Below W3.heap.size W3 W → CellsAt encDv 5 W gd od ds) := fun W b => by
      rcases (NIF.out W b).din with ⟨e, _⟩ | ⟨g', o', e, _, hc⟩
      · cases e
      · injection e with e; injection e with e1 e2; subst e1 e2; exact hc
    have LTG : Hid (∀ W, Below W3.heap.size W3 W → gn < W.heap.size ∧ gd < W.heap.size) := fun W b => by
      refine ⟨?_, ?_⟩
      · rcases (NIF.out W b).nin with ⟨e, _⟩ | ⟨g', o', e, h, hc⟩
        · cases e
        · injection e with e; injection e with e1 e2; subst e1; exact h
      · rcases (NIF.out W b).din with ⟨e, _⟩ | ⟨g', o', e, h, hc⟩
        · cases e
        · injection e with e; injection e with e1 e2; subst e1; exact h
    -- what Print says of the parts
    have PR1 : Hid (∀ W, Below W3.heap.size W3 W → ∀ v (hv : v < ns.length), Calls Tryd.prog 15 #[.agg #[.slice (some ⟨gn, on + v * 3, none⟩) 1 (cn - v), .slice none 0 0]] W fun e w' => e = .returned (.tuple #[.string (bs (Lib.join (ndW ns[v]) [32] ++ [10])), .int .i64 0]) ∧ Below W.heap.size W w') := fun W b v hv => by
      have nin : NetIn W (some ⟨gn, on + v * 3, none⟩) none 1 (cn - v) 0 0 [ns[v]] [] := ⟨rfl, rfl, .inr ⟨gn, on + v * 3, rfl, (LTG.out W b).1, cells_sub (CND.out W b) encNd_len v hv⟩, .inl ⟨rfl, rfl⟩, (fun x hx => by rw [List.mem_singleton.1 hx]; exact (NIF.out W b).nsz _ (List.getElem_mem hv)), (fun _ h => by cases h), by have := HN.out; omega, Nat.le_trans (Nat.sub_le _ _) (NIF.out W b).nmax, Nat.le_refl _, Nat.zero_le _⟩
      have hc := chk_single CH.out v hv
      have := print_is _ _ _ _ _ _ _ _ W (HMT.out W b) nin
      rw [show prT [ns[v]] [] = printT [ns[v]] [] from if_pos hc, hc, printT_one] at this
      exact this
    have PR2 : Hid (∀ W, Below W3.heap.size W3 W → ∀ v (_ : v < ns.length), Calls Tryd.prog 15 #[.agg #[.slice (some ⟨gn, on, none⟩) (v + 1) cn, .slice none 0 0]] W fun e w' => e = .returned (.tuple #[.string (bs (printT (ns.take (v + 1)) [])), .int .i64 0]) ∧ Below W.heap.size W w') := fun W b v hv => by
      have nin : NetIn W (some ⟨gn, on, none⟩) none (v + 1) cn 0 0 (ns.take (v + 1)) [] := ⟨by rw [List.length_take]; omega, rfl, RIn.take (.inr ⟨gn, on, rfl, (LTG.out W b).1, CND.out W b⟩) (v + 1), .inl ⟨rfl, rfl⟩, (fun x hx => (NIF.out W b).nsz _ (List.mem_of_mem_take hx)), (fun _ h => by cases h), by have := HN.out; omega, (NIF.out W b).nmax, Nat.le_refl _, Nat.zero_le _⟩
      have hc := chk_nodes CH.out (v + 1) (by omega)
      have := print_is _ _ _ _ _ _ _ _ W (HMT.out W b) nin
      rw [show prT (ns.take (v + 1)) [] = printT (ns.take (v + 1)) [] from if_pos hc, hc] at this
      exact this
    have PR3 : Hid (∀ W, Below W3.heap.size W3 W → ∀ v (_ : v < ns.length) k (hk : k < ds.length) (_ : (ds[k]).a ≤ v) (_ : (ds[k]).b ≤ v), Calls Tryd.prog 15 #[.agg #[.slice (some ⟨gn, on, none⟩) (v + 1) cn, .slice (some ⟨gd, od + k * 5, none⟩) 1 (cd - k)]] W fun e w' => e = .returned (.tuple #[.string (bs (printT (ns.take (v + 1)) [] ++ (Lib.join (dvW ns ds[k]) [32] ++ [10]))), .int .i64 0]) ∧ Below W.heap.size W w') := fun W b v hv k hk ha hb => by
      have nin : NetIn W (some ⟨gn, on, none⟩) (some ⟨gd, od + k * 5, none⟩) (v + 1) cn 1 (cd - k) (ns.take (v + 1)) [ds[k]] := ⟨by rw [List.length_take]; omega, rfl, RIn.take (.inr ⟨gn, on, rfl, (LTG.out W b).1, CND.out W b⟩) (v + 1), .inr ⟨gd, od + k * 5, rfl, (LTG.out W b).2, cells_sub (CDV.out W b) encDv_len k hk⟩, (fun x hx => (NIF.out W b).nsz _ (List.mem_of_mem_take hx)), (fun x hx => by rw [List.mem_singleton.1 hx]; exact (NIF.out W b).dfit _ (List.getElem_mem hk)), by have := HN.out; omega, (NIF.out W b).nmax, by have := HM.out; omega, Nat.le_trans (Nat.sub_le _ _) (NIF.out W b).dmax⟩
      have hc := chk_one CH.out (v + 1) k (by omega) hk (by omega) (by omega)
      have := print_is _ _ _ _ _ _ _ _ W (HMT.out W b) nin
      rw [show prT (ns.take (v + 1)) [ds[k]] = printT (ns.take (v + 1)) [ds[k]] from if_pos hc, hc, printT_dev, dvW_take CH.out (v + 1) k (by omega) hk (by omega) (by omega)] at this
      exact this
    have HSZ : Hid (∀ v, v < ns.length → (bs (printT (ns.take (v + 1)) [])).size ≤ 2000) := fun v hv => by
      have hc := chk_nodes CH.out (v + 1) (by omega)
      obtain ⟨q1, q2⟩ := print_ln hc
      have := text_len q1
      rw [bs_size]
      show (textOf _).length ≤ _
      have h3 : (printW (ns.take (v + 1)) []).length = v + 1 := by simp [printW]; omega
      have := HN.out
      omega
    have BEG := Lib.hid (Below.refl W3.heap.size W3)
    have hgw : g < W3.heap.size := NT.out.2.2
    obtain ⟨q0, q1, -⟩ := NT.out
    clear rn rd gn0 gd0 hN hM z1 z2 g1 g2 hbw hch hNT ni ni3 bw3 bx3
    go_wp2_with fail
    clear q0 q1 hW3 hg
    go_loopw [4, 5, 28] (fun tv dv iv wr => ∃ (v k : Nat) (t : ByteArray), v ≤ N ∧ k ≤ M ∧ iv = .int .i64 v ∧ dv = .int .i64 k ∧ tv = .string t ∧ t.size ≤ 133 * (v + k) ∧ Hid (∃ tl, t = bs tl ∧ Mix ns ds v k tl) ∧ Hid (v = N → k = M) ∧ Hid (Below W3.heap.size W3 wr)) (fun _ _ iv _ => N - (intOf iv).toNat)
    case atStart => exact ⟨0, 0, _, Nat.zero_le _, Nat.zero_le _, rfl, rfl, rfl, by simp [ByteArray.size], ⟨[], rfl, Mix.start ns ds⟩, (fun h => by omega), BEG⟩
    case round =>
      clear BEG
      obtain ⟨v, k, t, hvN, hkM, rfl, rfl, rfl, hts, hmix, hfin, bel⟩ := hrel
      obtain ⟨q0, q1, -⟩ := NTF0.out wr bel.out
      by_cases hv : v < N
      · have hvl : v < ns.length := by rw [HN.out]; exact hv
        have P1 := PR1.out
        have hl1 : (bs (Lib.join (ndW ns[v]) [32] ++ [10])).size ≤ 133 := line_size (nd_ln CH.out v hvl)
        have MX : Hid (∃ tl, t ++ bs (Lib.join (ndW ns[v]) [32] ++ [10]) = bs tl ∧ Mix ns ds (v + 1) k tl) := by
          obtain ⟨tl, e, hm⟩ := hmix.out
          exact ⟨_, by rw [e, bs_append], Mix.node CH.out hm hvl⟩
        obtain ⟨ln, hln⟩ : ∃ z, bs (Lib.join (ndW ns[v]) [32] ++ [10]) = z := ⟨_, rfl⟩
        have bx5 := below_box wr (.cells #[.slice (some ⟨gn, on + v * 3, none⟩) 1 (cn - v), .slice none 0 0] 26)
        have B5 := Lib.hid (bel.out.trans (bx5.mono bel.out.size))
        have P1 := P1 _ B5.out v hvl
        rw [hln] at P1 MX hl1
        have P1 := Lib.hid P1
        obtain ⟨y, hy⟩ : ∃ y, t ++ ln = y := ⟨_, rfl⟩
        have hys : y.size ≤ 133 * (v + 1 + k) := by rw [← hy, ByteArray.size_append]; omega
        rw [hy] at MX
        have hwv : IntKind.i64.wrap ((v : Int) + 1) = ((v + 1 : Nat) : Int) := by rw [IntKind.wrap_i64]; omega
        have hvc : v < cn := by omega
        clear hln bx5 hmix hfin
        go_wp2_with fail
        all_goals (try (exfalso; omega))
        refine P1.out.mono ?_; rintro e W4 ⟨rfl, b4⟩
        have B4 := Lib.hid (B5.out.trans (b4.mono B5.out.size))
        clear b4 q0 q1
        go_wp2_with fail
        go_loopw [4, 5] (fun tv dv wr => ∃ (k : Nat) (t : ByteArray), k ≤ M ∧ dv = .int .i64 k ∧ tv = .string t ∧ t.size ≤ 133 * (v + 1 + k) ∧ Hid (∃ tl, t = bs tl ∧ Mix ns ds (v + 1) k tl) ∧ Hid (Below W3.heap.size W3 wr)) (fun _ dv _ => M - (intOf dv).toNat)
        case atStart => exact ⟨k, y, hkM, rfl, rfl, hys, MX, B4⟩
        case round =>
          clear MX B4 hys hy P1 B5 bel hkM
          obtain ⟨k, t, hkM, rfl, rfl, hts, hmix, bel⟩ := hrel
          obtain ⟨q0, q1, -⟩ := NTF0.out wr bel.out
          by_cases hk : k < M
          · have hkl : k < ds.length := by rw [HM.out]; exact hk
            obtain ⟨-, -, c2, c3, -⟩ := cells_dv (CDV.out wr bel.out) k hkl
            have hok := Lib.hid (fun (h1 : (ds[k]).a ≤ v) (h2 : (ds[k]).b ≤ v) => (⟨fun W b => PR3.out W b v hvl k hkl h1 h2, line_size (dv_ln CH.out k hkl), fun tl hm => Mix.dev CH.out hm (by omega) hkl (by omega) (by omega)⟩ : (∀ W, Below W3.heap.size W3 W → _) ∧ (bs (Lib.join (dvW ns ds[k]) [32] ++ [10])).size ≤ 133 ∧ (∀ tl, Mix ns ds (v + 1) k tl → Mix ns ds (v + 1) (k + 1) (tl ++ (Lib.join (dvW ns ds[k]) [32] ++ [10])))))
            have hno := Lib.hid (fun (h : ¬ ((ds[k]).a ≤ v ∧ (ds[k]).b ≤ v)) (e : v + 1 = N) => (show False from by
              have h1 := dv_ok CH.out ds[k] (List.getElem_mem hkl)
              obtain ⟨-, ⟨-, h2⟩, h3, -, -, h6⟩ := h1
              have hNN := HN.out
              refine h ⟨by omega, ?_⟩
              by_cases q : (ds[k]).ki ≤ 3
              · have := h3 q; omega
              · have := h6 q; omega))
            obtain ⟨da, hda⟩ : ∃ z, (ds[k]).a = z := ⟨_, rfl⟩
            obtain ⟨db, hdb⟩ : ∃ z, (ds[k]).b = z := ⟨_, rfl⟩
            rw [hda] at c2
            rw [hdb] at c3
            rw [hda, hdb] at hok hno
            clear hda hdb
            by_cases ha : da ≤ v
            · have Ta : decide (da ≤ (v : Int)) = true := decide_eq_true ha
              by_cases hb : db ≤ v
              · have Tb : decide (db ≤ (v : Int)) = true := decide_eq_true hb
                obtain ⟨PR, hls, MXS⟩ := hok.out ha hb
                have MX : Hid (∃ tl, t ++ bs (Lib.join (dvW ns ds[k]) [32] ++ [10]) = bs tl ∧ Mix ns ds (v + 1) (k + 1) tl) := by
                  obtain ⟨tl, e, hm⟩ := hmix.out
                  exact ⟨_, by rw [e, bs_append], MXS tl hm⟩
                have hhs := HSZ.out v hvl
                have P2 := Lib.hid (fun W b => PR2.out W b v hvl)
                have EX : Hid (∀ n, n = (bs (printT (ns.take (v + 1)) [] ++ (Lib.join (dvW ns ds[k]) [32] ++ [10]))).size → (bs (printT (ns.take (v + 1)) [] ++ (Lib.join (dvW ns ds[k]) [32] ++ [10]))).extract (bs (printT (ns.take (v + 1)) [])).size n = bs (Lib.join (dvW ns ds[k]) [32] ++ [10])) := fun n hn => tail_of (by rw [hn, bs_size, List.length_append])
                have hfs : (bs (printT (ns.take (v + 1)) [] ++ (Lib.join (dvW ns ds[k]) [32] ++ [10]))).size = (bs (printT (ns.take (v + 1)) [])).size + (bs (Lib.join (dvW ns ds[k]) [32] ++ [10])).size := by rw [bs_size, bs_size, bs_size, List.length_append]
                obtain ⟨full, hfl⟩ : ∃ z, bs (printT (ns.take (v + 1)) [] ++ (Lib.join (dvW ns ds[k]) [32] ++ [10])) = z := ⟨_, rfl⟩
                rw [hfl] at PR EX hfs
                obtain ⟨hd, hhd⟩ : ∃ z, bs (printT (ns.take (v + 1)) []) = z := ⟨_, rfl⟩
                rw [hhd] at P2 EX hfs hhs
                obtain ⟨ln2, hl2⟩ : ∃ z, bs (Lib.join (dvW ns ds[k]) [32] ++ [10]) = z := ⟨_, rfl⟩
                rw [hl2] at MX hls hfs EX
                have PR := Lib.hid PR
                have EX2 := EX.out _ hfs.symm
                have hdc : k < cd := by omega
                have hvc2 : v + 1 ≤ cn := by omega
                have NTF : Hid (∀ W, Below wr.heap.size wr W → NtAt W g (.slice (some ⟨gn, on, none⟩) N cn) (.slice (some ⟨gd, od, none⟩) M cd)) := fun W b => NTF0.out W (bel.out.trans (b.mono bel.out.size))
                clear hfl hhd hl2 hmix MXS EX hok hno
                go_wp2_with fail
                refine inv.wp_region_inv3 (fun done vs W => Below wr.heap.size wr W ∧ (done 13 = true → ∃ B, vs 12 = .pointer (some ⟨B, 0, none⟩) ∧ W.heap[B]? = some (.cells #[.slice (some ⟨gn, on, none⟩) (v + 1) cn, .slice (some ⟨gd, od + k * 5, none⟩) 1 (cd - k)] 26 (0, 0)))) (DTw g gn on N cn gd od M cd v k wr.heap.size) (by kernel_rfl) (by kernel_rfl) (⟨(Below.refl _ _).drew, fun h => by cases h⟩) ?steps ?rest
                case steps =>
                  refine ⟨fun vs W done hS hD hno hold hcl hme K hK => ?_, fun vs W done hS hD hno hold hcl hme K hK => ?_, fun vs W done hS hD hno hold hcl hme K hK => ?_, fun vs W done hS hD hno hold hcl hme K hK => ?_, fun vs W done hS hD hno hold hcl hme K hK => ?_, fun vs W done hS hD hno hold hcl hme K hK => ?_, fun vs W done hS hD hno hold hcl hme K hK => ?_, fun vs W done hS hD hno hold hcl hme K hK => ?_, fun vs W done hS hD hno hold hcl hme K hK => ?_, fun vs W done hS hD hno hold hcl hme K hK => ?_, fun vs W done hS hD hno hold hcl hme K hK => ?_, fun vs W done hS hD hno hold hcl hme K hK => ?_, fun vs W done hS hD hno hold hcl hme K hK => ?_, fun vs W done hS hD hno hold hcl hme K hK => ?_, trivial⟩
                  · clear hold; clear hcl; simp only [inv.dstsL, inv.putT, Nat.reduceAdd, List.set_cons_zero, List.set_cons_succ]
                    go_simp
                    exact hK _ _ _ (by simp only [inv.dstsL, inv.putT, Nat.reduceAdd, List.set_cons_zero, List.set_cons_succ]; (try rfl)) (⟨hS.1, fun h => hS.2 (by simpa using h)⟩) (rfl) (fun _ _ _ _ h => h)
                  · clear hold; clear hcl; simp only [inv.dstsL, inv.putT, Nat.reduceAdd, List.set_cons_zero, List.set_cons_succ]
                    have h0 : (vs 0) = .pointer (some ⟨g, 0, none⟩) := hD 0 (by kernel_rfl)
                    have c0 := (NTF.out W hS.1).1
                    rw [h0]
                    go_simp
                    exact hK _ _ _ (by simp only [inv.dstsL, inv.putT, Nat.reduceAdd, List.set_cons_zero, List.set_cons_succ, h0]; (try rfl)) (⟨hS.1, fun h => hS.2 (by simpa using h)⟩) (rfl) (fun _ _ _ _ h => h)
                  · clear hold; clear hcl; simp only [inv.dstsL, inv.putT, Nat.reduceAdd, List.set_cons_zero, List.set_cons_succ]
                    go_simp
                    exact hK _ _ _ (by simp only [inv.dstsL, inv.putT, Nat.reduceAdd, List.set_cons_zero, List.set_cons_succ]; (try rfl)) (⟨hS.1, fun h => hS.2 (by simpa using h)⟩) (rfl) (fun _ _ _ _ h => h)
                  · clear hold; clear hcl; simp only [inv.dstsL, inv.putT, Nat.reduceAdd, List.set_cons_zero, List.set_cons_succ]
                    have h2 : (vs 2) = .int .i64 (v : Int) := hD 2 (by kernel_rfl)
                    have hwv : IntKind.i64.wrap ((v : Int) + 1) = ((v + 1 : Nat) : Int) := by rw [IntKind.wrap_i64]; omega
                    rw [h2]
                    go_simp
                    exact hK _ _ _ (by simp only [inv.dstsL, inv.putT, Nat.reduceAdd, List.set_cons_zero, List.set_cons_succ, h2]; (try rfl)) (⟨hS.1, fun h => hS.2 (by simpa using h)⟩) (rfl) (fun _ _ _ _ h => h)
                  · clear hold; clear hcl; simp only [inv.dstsL, inv.putT, Nat.reduceAdd, List.set_cons_zero, List.set_cons_succ]
                    have h1 : (vs 1) = .slice (some ⟨gn, on, none⟩) N cn := hD 1 (by kernel_rfl)
                    have h3 : (vs 3) = .int .i64 ((v + 1 : Nat) : Int) := hD 3 (by kernel_rfl)
                    rw [h1, h3]
                    go_simp
                    try (rw [if_pos (by omega)]; go_simp)
                    exact hK _ _ _ (by simp only [inv.dstsL, inv.putT, Nat.reduceAdd, List.set_cons_zero, List.set_cons_succ, h1, h3]; (try rfl)) (⟨hS.1, fun h => hS.2 (by simpa using h)⟩) (rfl) (fun _ _ _ _ h => h)
                  · clear hold; clear hcl; simp only [inv.dstsL, inv.putT, Nat.reduceAdd, List.set_cons_zero, List.set_cons_succ]
                    go_simp
                    exact hK _ _ _ (by simp only [inv.dstsL, inv.putT, Nat.reduceAdd, List.set_cons_zero, List.set_cons_succ]; (try rfl)) (⟨hS.1, fun h => hS.2 (by simpa using h)⟩) (rfl) (fun _ _ _ _ h => h)
                  · clear hold; clear hcl; simp only [inv.dstsL, inv.putT, Nat.reduceAdd, List.set_cons_zero, List.set_cons_succ]
                    have h5 : (vs 5) = .pointer (some ⟨g, 1, none⟩) := hD 5 (by kernel_rfl)
                    have c1 := (NTF.out W hS.1).2.1
                    rw [h5]
                    go_simp
                    exact hK _ _ _ (by simp only [inv.dstsL, inv.putT, Nat.reduceAdd, List.set_cons_zero, List.set_cons_succ, h5]; (try rfl)) (⟨hS.1, fun h => hS.2 (by simpa using h)⟩) (rfl) (fun _ _ _ _ h => h)
                  · clear hold; clear hcl; simp only [inv.dstsL, inv.putT, Nat.reduceAdd, List.set_cons_zero, List.set_cons_succ]
                    go_simp
                    exact hK _ _ _ (by simp only [inv.dstsL, inv.putT, Nat.reduceAdd, List.set_cons_zero, List.set_cons_succ]; (try rfl)) (⟨hS.1, fun h => hS.2 (by simpa using h)⟩) (rfl) (fun _ _ _ _ h => h)
                  · clear hold; clear hcl; simp only [inv.dstsL, inv.putT, Nat.reduceAdd, List.set_cons_zero, List.set_cons_succ]
                    go_simp
                    exact hK _ _ _ (by simp only [inv.dstsL, inv.putT, Nat.reduceAdd, List.set_cons_zero, List.set_cons_succ]; (try rfl)) (⟨hS.1, fun h => hS.2 (by simpa using h)⟩) (rfl) (fun _ _ _ _ h => h)
                  · clear hold; clear hcl; simp only [inv.dstsL, inv.putT, Nat.reduceAdd, List.set_cons_zero, List.set_cons_succ]
                    have h8 : (vs 8) = .int .i64 (k : Int) := hD 8 (by kernel_rfl)
                    have hwk : IntKind.i64.wrap ((k : Int) + 1) = ((k + 1 : Nat) : Int) := by rw [IntKind.wrap_i64]; omega
                    rw [h8]
                    go_simp
                    exact hK _ _ _ (by simp only [inv.dstsL, inv.putT, Nat.reduceAdd, List.set_cons_zero, List.set_cons_succ, h8]; (try rfl)) (⟨hS.1, fun h => hS.2 (by simpa using h)⟩) (rfl) (fun _ _ _ _ h => h)
                  · clear hold; clear hcl; simp only [inv.dstsL, inv.putT, Nat.reduceAdd, List.set_cons_zero, List.set_cons_succ]
                    have h6 : (vs 6) = .slice (some ⟨gd, od, none⟩) M cd := hD 6 (by kernel_rfl)
                    have h7 : (vs 7) = .int .i64 (k : Int) := hD 7 (by kernel_rfl)
                    have h9 : (vs 9) = .int .i64 ((k + 1 : Nat) : Int) := hD 9 (by kernel_rfl)
                    have hcdk : ¬ cd = k := by omega
                    rw [h6, h7, h9]
                    go_simp
                    try (rw [if_pos (by omega)]; go_simp)
                    try (rw [if_neg hcdk])
                    exact hK _ _ _ (by simp only [inv.dstsL, inv.putT, Nat.reduceAdd, List.set_cons_zero, List.set_cons_succ, h6, h7, h9]; (try rfl)) (⟨hS.1, fun h => hS.2 (by simpa using h)⟩) (rfl) (fun _ _ _ _ h => h)
                  · clear hold; clear hcl; simp only [inv.dstsL, inv.putT, Nat.reduceAdd, List.set_cons_zero, List.set_cons_succ]
                    have h4 : (vs 4) = .slice (some ⟨gn, on, none⟩) (v + 1) cn := hD 4 (by kernel_rfl)
                    have h10 : (vs 10) = .slice (some ⟨gd, od + k * 5, none⟩) 1 (cd - k) := hD 10 (by kernel_rfl)
                    rw [h4, h10]
                    go_simp
                    exact hK _ _ _ (by simp only [inv.dstsL, inv.putT, Nat.reduceAdd, List.set_cons_zero, List.set_cons_succ, h4, h10]; (try rfl)) (⟨hS.1, fun h => hS.2 (by simpa using h)⟩) (rfl) (fun _ _ _ _ h => h)
                  · clear hold; clear hcl; simp only [inv.dstsL, inv.putT, Nat.reduceAdd, List.set_cons_zero, List.set_cons_succ]
                    have d13 := hno 13 (by kernel_rfl)
                    go_simp
                    exact hK _ _ _ (by simp only [inv.dstsL, inv.putT, Nat.reduceAdd, List.set_cons_zero, List.set_cons_succ]; (try rfl)) (⟨hS.1.trans ((below_box W _).mono hS.1.size), fun h => by simp [d13] at h⟩) (⟨W.heap.size, _, _, rfl, heap_alloc_new _ _, hS.1.size⟩) (fun j v _ _ => (DTw.kept (below_box W _)) j v)
                  · clear hold; clear hcl; simp only [inv.dstsL, inv.putT, Nat.reduceAdd, List.set_cons_zero, List.set_cons_succ]
                    have h11 : (vs 11) = .agg #[.slice (some ⟨gn, on, none⟩) (v + 1) cn, .slice (some ⟨gd, od + k * 5, none⟩) 1 (cd - k)] := hD 11 (by kernel_rfl)
                    have h12 : ∃ B y0 y1, (vs 12) = .pointer (some ⟨B, 0, none⟩) ∧ W.heap[B]? = some (.cells #[y0, y1] 26 (0, 0)) ∧ wr.heap.size ≤ B := hD 12 (by kernel_rfl)
                    obtain ⟨B, y0, y1, h12, hb, hB⟩ := h12
                    obtain ⟨e0, e1, f0, f1⟩ := arr2 hb
                    rw [h11, h12]
                    go_simp
                    exact hK undef _ _ (by simp only [inv.dstsL, inv.putT, Nat.reduceAdd, List.set_cons_zero, List.set_cons_succ, h11, h12]; (try rfl)) (⟨(hS.1.setCell hB _).setCell hB _, fun _ => ⟨B, h12, set_at (i := 1) _ (set_at (i := 0) _ hb)⟩⟩) (by first | rfl | trivial) (fun j u _ _ h => DTw.kept2 hb (set_at (i := 1) _ (set_at (i := 0) _ hb)) (fun B' q => by rw [Below.heap_setCell _ _ _ _ q, Below.heap_setCell _ _ _ _ q]) j u h)
                case rest =>
                  intro vs W done hdone hS hD
                  obtain ⟨hbel, hBB⟩ := hS
                  obtain ⟨B, hp, hb9⟩ := hBB (hdone 13 (by decide))
                  simp only [inv.dstsL, inv.putT, Nat.reduceAdd, List.set_cons_zero, List.set_cons_succ]
                  rw [hp]
                  have B9 := Lib.hid (bel.out.trans (hbel.mono bel.out.size))
                  have HB9 := Lib.hid hb9
                  generalize vs 0 = y0, vs 1 = y1, vs 2 = y2, vs 3 = y3, vs 4 = y4, vs 5 = y5, vs 6 = y6, vs 7 = y7, vs 8 = y8, vs 9 = y9, vs 10 = y10, vs 11 = y11 at *
                  obtain ⟨p0, p1, -⟩ := NTF.out W hbel
                  have hwv2 : IntKind.i64.wrap ((v : Int) + 1) = ((v + 1 : Nat) : Int) := by rw [IntKind.wrap_i64]; omega
                  clear hD hdone hBB hp q0 q1 hbel hb9 c2 c3
                  go_wp2_with fail
                  all_goals (try (exfalso; omega))
                  refine (P2.out _ B9.out).mono ?_; rintro e W10 ⟨rfl, b10⟩
                  have B10 := Lib.hid (B9.out.trans (b10.mono B9.out.size))
                  have hb10 := (b10.block B (lt_of_block HB9.out)).trans HB9.out
                  obtain ⟨s0, s1, -, -⟩ := arr2 hb10
                  clear b10 p0 p1 hb10
                  go_wp2_with fail
                  refine (PR.out _ B10.out).mono ?_; rintro e W11 ⟨rfl, b11⟩
                  have B11 := Lib.hid (B10.out.trans (b11.mono B10.out.size))
                  clear b11 s0 s1
                  have TLT : decide ((full.size : Int) < (hd.size : Int)) = false := decide_eq_false (by omega)
                  obtain ⟨y, hy⟩ : ∃ y, t ++ ln2 = y := ⟨_, rfl⟩
                  have hys : y.size ≤ 133 * (v + 1 + (k + 1)) := by rw [← hy, ByteArray.size_append]; omega
                  rw [hy] at MX
                  go_wp2
                  go_roundw
                  case rel => exact ⟨k + 1, y, by omega, by go_num, rfl, hys, MX, B11⟩
                  case measure => simp [intOf]; omega
              · have Tb : decide (db ≤ (v : Int)) = false := decide_eq_false hb
                have HF : Hid (v + 1 = N → k = M) := fun e => (hno.out (fun h => hb h.2) e).elim
                clear hok hno
                go_wp2
                go_roundw
                case rel => exact ⟨v + 1, k, t, by omega, hkM, by go_num, rfl, rfl, by omega, hmix, HF, bel⟩
                case measure => simp [intOf]; omega
            · have Ta : decide (da ≤ (v : Int)) = false := decide_eq_false ha
              have HF : Hid (v + 1 = N → k = M) := fun e => (hno.out (fun h => ha h.1) e).elim
              clear hok hno
              go_wp2
              go_roundw
              case rel => exact ⟨v + 1, k, t, by omega, hkM, by go_num, rfl, rfl, by omega, hmix, HF, bel⟩
              case measure => simp [intOf]; omega
          · obtain rfl : M = k := by omega
            go_wp2
            go_roundw
            case rel => exact ⟨v + 1, M, t, by omega, Nat.le_refl _, by go_num, rfl, rfl, by omega, hmix, (fun _ => rfl), bel⟩
            case measure => simp [intOf]; omega
      · obtain rfl : N = v := by omega
        obtain rfl : k = M := hfin.out rfl
        have hPP : parseR t.data.toList = ((ns, ds), 0, 0) := by
          obtain ⟨tl, e, hm⟩ := hmix.out
          rw [e, bs_data]
          refine Mix.parse CH.out ?_
          rw [HN.out, HM.out]; exact hm
        have PP := Lib.hid hPP
        have BEND := Lib.hid (fun W (b : Below W3.heap.size W3 W) => BW3.out.trans (b.mono BW3.out.size))
        have P1 := Lib.hid (parse_is t wr (HMT.out wr bel.out).tabs.cls (by omega))
        have AW := Lib.hid (fun W (b : Below W3.heap.size W3 W) => awake_is W (HMT.out W b).tabs.cls)
        clear hPP hmix
        go_wp2_with fail
        refine P1.out.mono ?_; rintro e W5 ⟨a5, N5, c5, b5, M5, d5, rfl, hn5, bb5⟩
        rw [PP.out] at hn5 ⊢
        have bx5 := below_box W5 (.cells #[.slice a5 N5 c5, .slice b5 M5 d5] 26)
        have bq5 := bb5.trans (bx5.mono bb5.size)
        have B5 := Lib.hid (bel.out.trans (bq5.mono bel.out.size))
        obtain ⟨x0, x1, -⟩ := NtAt.new W5 (.slice a5 N5 c5) (.slice b5 M5 d5) 26
        obtain ⟨x2, x3, -⟩ := NTF0.out _ B5.out
        have SR := Lib.hid (rsame_is a5 b5 (some ⟨gn, on, none⟩) (some ⟨gd, od, none⟩) N5 c5 M5 d5 N cn k cd ns ns ds ds true _ (hn5.below bx5) (NIF.out _ B5.out) ⟨fun _ => ⟨rfl, rfl⟩, fun _ => rfl⟩)
        clear hn5 bx5 bb5 bq5 q0 q1
        go_wp2_with fail
        refine SR.out.mono ?_; rintro e W6 ⟨rfl, b6⟩
        have B6 := Lib.hid (B5.out.trans (b6.mono B5.out.size))
        clear b6 x0 x1 x2 x3
        go_wp2_with fail
        refine (AW.out _ B6.out).mono ?_; rintro e W7 ⟨rfl, b7⟩
        have BZ := Lib.hid (BEND.out _ (B6.out.trans (b7.mono B6.out.size)))
        clear b7
        go_wp2
        go_ret
        exact ⟨rfl, BZ.out⟩
  · have t1 : decide ((len : Int) ≤ 400) = false := decide_eq_false (by omega)
    go_enter Tryd.func5, Tryd.ntmps5
    go_wp2_with fail
    refine (few_any _ _ _ _ hl).mono ?_; rintro e w' ⟨rfl, rfl⟩
    go_wp2_with fail
    refine (awake_is _ H.out.tabs.cls).mono ?_; rintro e w4 ⟨rfl, b4⟩
    have BZ := Lib.hid b4
    clear b4
    go_wp2
    go_ret
    exact ⟨rfl, BZ.out⟩
end Go.Proofs.YtdgllaiejhnjmaaDoor.mod
