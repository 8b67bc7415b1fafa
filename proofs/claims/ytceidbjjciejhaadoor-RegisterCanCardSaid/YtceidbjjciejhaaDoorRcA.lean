/- For every list of numbers, time and skills RegisterCan returns true: who can do what is what the reference says. Condition: the table 'classes' holds what the program's text lays (the card ties that). -/
import Derived.Test.YtceidbjjciejhaaDoorPgW
import Derived.Test.YtceidbjjciejhaaDoorRgJ
import Derived.Deep.RegionHeld3
namespace Go.Proofs.YtceidbjjciejhaaDoor.reg
open Go.RowKit lex aggs kit net deck

theorem gb_cellr {W W1 : World} {bd g i : Nat} {v : Value} (h : W.cell? ⟨g, i, none⟩ = some v) (gb : W.grownBy W1 (some bd)) (hne : g ≠ bd) : W1.cell? ⟨g, i, none⟩ = some v := gb.cell h (by simp; exact hne)
section
variable {w0 WS X Y : World} {bd len cap g i k j : Nat} {a : Option Addr} {v0 u0 : Value}
theorem duo_below (h : X.cell? ⟨g, i, none⟩ = some v0 ∧ X.cell? ⟨k, j, none⟩ = some u0 ∧ Game w0 X bd a len cap ∧ WS.grownBy X (some bd)) (hg : g ≠ bd) (hk : k ≠ bd) (b : Below X.heap.size X Y) :
    Y.cell? ⟨g, i, none⟩ = some v0 ∧ Y.cell? ⟨k, j, none⟩ = some u0 ∧ Game w0 Y bd a len cap ∧ WS.grownBy Y (some bd) := by
  have gb := gb_of_below b (some bd)
  exact ⟨gb_cellr h.1 gb hg, gb_cellr h.2.1 gb hk, h.2.2.1.by_below b, gb_tr h.2.2.2 gb⟩
theorem duo_game (h : X.cell? ⟨g, i, none⟩ = some v0 ∧ X.cell? ⟨k, j, none⟩ = some u0 ∧ Game w0 X bd a len cap ∧ WS.grownBy X (some bd)) : Game w0 X bd a len cap ∧ WS.grownBy X (some bd) := h.2.2
theorem duo_drew (h : X.cell? ⟨g, i, none⟩ = some v0 ∧ X.cell? ⟨k, j, none⟩ = some u0 ∧ Game w0 X bd a len cap ∧ WS.grownBy X (some bd)) :
    X.drew.cell? ⟨g, i, none⟩ = some v0 ∧ X.drew.cell? ⟨k, j, none⟩ = some u0 ∧ Game w0 X.drew bd a len cap ∧ WS.grownBy X.drew (some bd) := ⟨h.1, h.2.1, h.2.2.1.drew, gb_drew h.2.2.2⟩
end
/-- a block of numbers -/
def IntsAt (n bd B : Nat) (W : World) : Prop := (∃ A T, W.heap[B]? = some (.cells A T (0, 0)) ∧ A.size = n ∧ ∀ j, j < n → ∃ z : Int, A[j]? = some (.int .i64 z)) ∧ B ≠ bd
theorem IntsAt.keep {n bd B : Nat} {W W' : World} (h : IntsAt n bd B W) (hb : W.grownBy W' (some bd)) : IntsAt n bd B W' := by
  obtain ⟨⟨A, T, h1, h2⟩, h3⟩ := h
  exact ⟨⟨A, T, by rw [hb.block B (lt_of_block h1) (fun e => h3 (by injection e))]; exact h1, h2⟩, h3⟩
theorem IntsAt.get {n bd B : Nat} {W : World} (h : IntsAt n bd B W) (j : Nat) (hj : j < n) : ∃ z : Int, W.cell? ⟨B, j, none⟩ = some (.int .i64 z) := by
  obtain ⟨⟨A, T, h1, h2, h3⟩, -⟩ := h
  obtain ⟨z, hz⟩ := h3 j hj
  exact ⟨z, by rw [(cell_at h1 j).1]; exact hz⟩
theorem ints3 {W : World} {bd B T : Nat} {x y z : Int} (h : W.heap[B]? = some (.cells #[.int .i64 x, .int .i64 y, .int .i64 z] T (0, 0))) (hb : B ≠ bd) : IntsAt 3 bd B W :=
  ⟨⟨_, _, h, rfl, fun j hj => by rcases (show j = 0 ∨ j = 1 ∨ j = 2 by omega) with rfl | rfl | rfl <;> exact ⟨_, rfl⟩⟩, hb⟩
theorem ints5 {W : World} {bd B T : Nat} {x y z u v : Int} (h : W.heap[B]? = some (.cells #[.int .i64 x, .int .i64 y, .int .i64 z, .int .i64 u, .int .i64 v] T (0, 0))) (hb : B ≠ bd) : IntsAt 5 bd B W :=
  ⟨⟨_, _, h, rfl, fun j hj => by rcases (show j = 0 ∨ j = 1 ∨ j = 2 ∨ j = 3 ∨ j = 4 by omega) with rfl | rfl | rfl | rfl | rfl <;> exact ⟨_, rfl⟩⟩, hb⟩
def DCn (bd px : Nat) (k sk : Int) : Nat → Value → World → Prop
  | 0, v, _ => v = .int .i64 k
  | 1, v, _ => v = .pointer (some ⟨px, 2, none⟩)
  | 2, v, _ => v = .int .i64 sk
  | 3, v, _ => v = .pointer (some ⟨bd, 0, none⟩)
  | 4, v, _ => ∃ q : Nat, q < 6 ∧ v = .int .i64 (q : Int)
  | 5, v, _ => ∃ q : Nat, q < 6 ∧ v = .int .u64 (q : Int)
  | 6, v, _ => ∃ z : Int, v = .int .i64 z
  | 7, v, W => ∃ B, v = .slice (some ⟨B, 0, none⟩) 3 3 ∧ IntsAt 3 bd B W
  | 8, v, _ => v = .int .i64 3
  | 9, v, _ => v = .int .i64 0
  | _, _, _ => True
theorem DCn.kept {bd px : Nat} {k sk : Int} {W W' : World} (hg : W.grownBy W' (some bd)) : ∀ j v, DCn bd px k sk j v W → DCn bd px k sk j v W'
  | 0, _, h | 1, _, h | 2, _, h | 3, _, h | 4, _, h | 5, _, h | 6, _, h | 8, _, h | 9, _, h | _ + 10, _, h => h
  | 7, _, ⟨B, h1, h2⟩ => ⟨B, h1, h2.keep hg⟩
set_option maxRecDepth 100000 in
set_option maxHeartbeats 8000000 in
theorem can_walk (la : Option Addr) (len cap : Nat) (zs : List Int) (time skills : Int) (W0 : World)
    (hr : IsRow .i64 W0 la len cap zs) (_t0 : -9223372036854775808 ≤ time) (_t1 : time ≤ 9223372036854775807) (_s0 : -9223372036854775808 ≤ skills) (_s1 : skills ≤ 9223372036854775807) (h : HasClasses W0) :
    Calls Tryd.prog 3 #[.slice la len cap, .int .i64 time, .int .i64 skills] W0 fun e w' => e = .returned (.bool true) ∧ Below W0.heap.size W0 w' := by
  have hl : len ≤ 9223372036854775807 := by
    rcases hr with ⟨_, h, _⟩ | ⟨_, _, h1, h2, _⟩
    · omega
    · unfold maxLen at h2; omega
  clear _t0 _t1 _s0 _s1
  have H0 := Lib.hid h
  have HR0 := Lib.hid hr
  clear h hr
  by_cases h4 : len ≤ 400
  · have t1 : decide ((len : Int) ≤ 400) = true := decide_eq_true (by omega)
    go_enter Tryd.func3, Tryd.ntmps3
    go_wp2_with fail
    refine (few_any _ _ _ _ hl).mono ?_; rintro e w' ⟨rfl, rfl⟩
    go_wp2_with fail
    refine (newg_any _ _ _ _).mono ?_; rintro e w1 ⟨rfl, g1⟩
    have hbw := g1.lt
    obtain ⟨bd, hbd⟩ : ∃ b, W0.heap.size = b := ⟨_, rfl⟩
    have HB := Lib.hid hbd
    rw [hbd] at hbw g1 ⊢
    clear hbd h4 t1 hl
    go_wp2_with fail
    refine (some_is g1 HR0.out).mono ?_; rintro e w2 ⟨a, N, c, ps, rfl, rg, ok, l6, g2, gb2⟩
    have hz := heap_alloc_new w2 (.cells #[.slice none 0 0] 29)
    have bxx := below_box w2 (.cells #[.slice none 0 0] 29)
    have hset := set_at (i := 0) (.slice a N c) hz
    obtain ⟨c0, z0⟩ := cell_at hz 0
    obtain ⟨rb, hrb⟩ : ∃ b, w2.heap.size = b := ⟨_, rfl⟩
    have hrbd : rb ≠ bd := by have := g2.lt; omega
    rw [hrb] at hset c0 z0
    have gs : (w2.alloc (.cells #[.slice none 0 0] 29)).grownBy ((w2.alloc (.cells #[.slice none 0 0] 29)).setCell ⟨rb, 0, none⟩ (.slice a N c)) (some rb) := gb_set _ (gb_refl _ _)
    have G2 := (g2.by_below bxx).grown gs (by simpa using fun e => hrbd e.symm) (fun j hj => by cases hj; have := g2.mine; have := g2.lt; omega)
    have R2 := (rg.below bxx).box (by rw [← hrb]; exact hz) gs
    obtain ⟨W1, hW1⟩ : ∃ W, (w2.alloc (.cells #[.slice none 0 0] 29)).setCell ⟨rb, 0, none⟩ (.slice a N c) = W := ⟨_, rfl⟩
    rw [hW1] at hset G2 R2
    have n1 := R2.ncap
    have n2 := R2.nmax
    unfold maxLen at n2
    have hn := Lib.hid R2.len
    have G1 := Lib.hid G2
    have RB := Lib.hid (cell_at hset 0).1
    have REG := Lib.hid R2
    have OKP := Lib.hid ok
    have k1 := RB.out
    clear hz bxx hset gs G2 R2 ok rg g1 g2 gb2 l6 hbw
    go_wp2_with fail
    first | rw [hW1] | skip
    clear hW1 c0 z0 hrb
    go_wp2
    go_loopw [26] (fun i wr => ∃ j : Nat, j ≤ N ∧ i = .int .i64 j ∧ Hid (W1.grownBy wr (some bd)) ∧ Hid (Game W0 wr bd la len cap)) (fun i _ => N - (intOf i).toNat)
    case atStart => exact ⟨0, Nat.zero_le _, rfl, gb_refl _ _, G1.out⟩
    case round =>
      clear k1
      obtain ⟨j, hj, rfl, GB, GX⟩ := hrel
      have k1 := gb_cellr RB.out GB.out hrbd
      by_cases hjn : j < N
      · have hjx : j < ps.length := by rw [hn.out]; exact hjn
        have RGX := REG.out.far G1.out.deck GB.out
        obtain ⟨g, o, hae, hg, hc⟩ := RGX.rin.some (by omega)
        obtain ⟨c0, c1, c2, c3, c4⟩ := cells_pn hc j hjx
        obtain ⟨x, hx⟩ : ∃ x, ps[j] = x := ⟨_, rfl⟩
        rw [hx] at c0 c1 c2 c3 c4
        have PA := PnAt.new wr x 32
        have bx5 := below_box wr (.cells #[.string x.nm, .int .i64 x.co, .int .i64 x.sk, .int .i64 x.fr, .int .i64 x.un] 32)
        have hpb : wr.heap.size ≠ bd := Nat.ne_of_gt GX.out.lt
        obtain ⟨nm, co, sk, fr, un⟩ := x
        dsimp only at c0 c1 c2 c3 c4 bx5
        subst hae
        obtain ⟨W2, hW2⟩ : ∃ W, wr.alloc (.cells #[.string nm, .int .i64 co, .int .i64 sk, .int .i64 fr, .int .i64 un] 32) = W := ⟨_, rfl⟩
        obtain ⟨px, hpx⟩ : ∃ b, wr.heap.size = b := ⟨_, rfl⟩
        dsimp only [PnAt] at PA
        rw [hW2] at PA bx5
        rw [hpx] at PA hpb
        obtain ⟨q0, q1, q2, q3, q4, -⟩ := PA
        have P0 := Lib.hid q0
        have P2' := Lib.hid q2
        have GB2 := Lib.hid (gb_tr GB.out (gb_of_below bx5 _))
        have GX2 := Lib.hid (GX.out.by_below bx5)
        have pxb : px ≠ bd := hpb
        have hjN : (j : Int) < (N : Int) := by omega
        clear bx5 hc hx hg RGX hpb
        go_wp2_with fail
        first | rw [hW2] | skip
        clear hW2
        have hz5 := heap_alloc_new W2 (.cells #[.int .i64 time, .int .i64 (wrap64 (fr - 1)), .int .i64 fr, .int .i64 (wrap64 (un - 1)), .int .i64 un] 3)
        have by5 := below_box W2 (.cells #[.int .i64 time, .int .i64 (wrap64 (fr - 1)), .int .i64 fr, .int .i64 (wrap64 (un - 1)), .int .i64 un] 3)
        have hb5 : W2.heap.size ≠ bd := Nat.ne_of_gt GX2.out.lt
        obtain ⟨W3, hW3⟩ : ∃ W, W2.alloc (.cells #[.int .i64 time, .int .i64 (wrap64 (fr - 1)), .int .i64 fr, .int .i64 (wrap64 (un - 1)), .int .i64 un] 3) = W := ⟨_, rfl⟩
        obtain ⟨b5, hb5e⟩ : ∃ b, W2.heap.size = b := ⟨_, rfl⟩
        rw [hb5e] at hz5 hb5
        rw [hW3] at hz5 by5
        have GB3 := Lib.hid (gb_tr GB2.out (gb_of_below by5 _))
        have GX3 := Lib.hid (GX2.out.by_below by5)
        have P0 := Lib.hid (gb_cellr P0.out (gb_of_below by5 (some bd)) pxb)
        have P2 := Lib.hid (gb_cellr P2'.out (gb_of_below by5 (some bd)) pxb)
        have I5 := Lib.hid (ints5 (bd := bd) hz5 hb5)
        clear hz5 by5 P2' c0 c1 c2 c3 c4
        go_wp2_with fail
        first | rw [hW3] | skip
        rw [hb5e]
        clear hW3 hb5e q0 q1 q2 q3 q4 k1
        go_loopw [43] (fun i wr => ∃ j : Nat, j ≤ 5 ∧ i = .int .i64 j ∧ Hid (W3.grownBy wr (some bd)) ∧ Hid (Game W0 wr bd la len cap)) (fun i _ => 5 - (intOf i).toNat)
        case atStart => exact ⟨0, Nat.zero_le _, rfl, gb_refl _ _, GX3.out⟩
        case round =>
          obtain ⟨e, he, rfl, GB4, GX4⟩ := hrel
          by_cases he5 : e < 5
          · have he5i : (e : Int) < 5 := by omega
            obtain ⟨tm, c0⟩ := (I5.out.keep GB4.out).get e he5
            go_wp2_with fail
            go_wp2
            refine inv.wp_region_inv (fun _ W => Game W0 W bd la len cap ∧ W3.grownBy W (some bd)) (DCn bd px skills sk) (by kernel_rfl) (by kernel_rfl) ⟨GX4.out.drew, gb_drew GB4.out⟩ ?steps ?rest
            case steps =>
              refine ⟨fun vs W done hS hD hno K hK => ?_, fun vs W done hS hD hno K hK => ?_, fun vs W done hS hD hno K hK => ?_, fun vs W done hS hD hno K hK => ?_, fun vs W done hS hD hno K hK => ?_, fun vs W done hS hD hno K hK => ?_, fun vs W done hS hD hno K hK => ?_, fun vs W done hS hD hno K hK => ?_, fun vs W done hS hD hno K hK => ?_, fun vs W done hS hD hno K hK => ?_, trivial⟩
              · simp only [inv.dstsL, inv.putT, Nat.reduceAdd, List.set_cons_zero, List.set_cons_succ]
                go_simp
                exact hK _ _ _ (by simp only [inv.dstsL, inv.putT, Nat.reduceAdd, List.set_cons_zero, List.set_cons_succ]; (try rfl)) (hS) (rfl) (fun _ _ h => h)
              · simp only [inv.dstsL, inv.putT, Nat.reduceAdd, List.set_cons_zero, List.set_cons_succ]
                go_simp
                exact hK _ _ _ (by simp only [inv.dstsL, inv.putT, Nat.reduceAdd, List.set_cons_zero, List.set_cons_succ]; (try rfl)) (hS) (rfl) (fun _ _ h => h)
              · simp only [inv.dstsL, inv.putT, Nat.reduceAdd, List.set_cons_zero, List.set_cons_succ]
                have h1 : (vs 1) = .pointer (some ⟨px, 2, none⟩) := hD 1 (by kernel_rfl)
                have c0 := gb_cellr P2.out hS.2 pxb
                rw [h1]
                go_simp
                exact hK _ _ _ (by simp only [inv.dstsL, inv.putT, Nat.reduceAdd, List.set_cons_zero, List.set_cons_succ, h1]; (try rfl)) (hS) (rfl) (fun _ _ h => h)
              · simp only [inv.dstsL, inv.putT, Nat.reduceAdd, List.set_cons_zero, List.set_cons_succ]
                go_simp
                exact hK _ _ _ (by simp only [inv.dstsL, inv.putT, Nat.reduceAdd, List.set_cons_zero, List.set_cons_succ]; (try rfl)) (hS) (rfl) (fun _ _ h => h)
              · simp only [inv.dstsL, inv.putT, Nat.reduceAdd, List.set_cons_zero, List.set_cons_succ]
                have h3 : (vs 3) = .pointer (some ⟨bd, 0, none⟩) := hD 3 (by kernel_rfl)
                rw [h3]
                go_simp
                refine (hS.1.next HR0.out (6 : Int) (by omega)).mono ?_; rintro e W2 ⟨q, rfl, r0, r1, hg2, hgb2⟩
                obtain ⟨q, rfl⟩ : ∃ q2 : Nat, q = q2 := ⟨q.toNat, by omega⟩
                have hq : q < 6 := by omega
                clear r0 r1
                exact hK _ _ _ (by simp only [inv.dstsL, inv.putT, Nat.reduceAdd, List.set_cons_zero, List.set_cons_succ, h3]; (try rfl)) (⟨hg2, gb_tr hS.2 hgb2⟩) (⟨q, hq, rfl⟩) (DCn.kept hgb2)
              · simp only [inv.dstsL, inv.putT, Nat.reduceAdd, List.set_cons_zero, List.set_cons_succ]
                have h4 : ∃ q : Nat, q < 6 ∧ (vs 4) = .int .i64 (q : Int) := hD 4 (by kernel_rfl)
                obtain ⟨q, hq, h4⟩ := h4
                have hwu : IntKind.u64.wrap (q : Int) = (q : Int) := by rw [IntKind.wrap_u64]; omega
                rw [h4]
                go_simp
                exact hK _ _ _ (by simp only [inv.dstsL, inv.putT, Nat.reduceAdd, List.set_cons_zero, List.set_cons_succ, h4]; (try rfl)) (hS) (⟨q, hq, rfl⟩) (fun _ _ h => h)
              · simp only [inv.dstsL, inv.putT, Nat.reduceAdd, List.set_cons_zero, List.set_cons_succ]
                have h5 : ∃ q : Nat, q < 6 ∧ (vs 5) = .int .u64 (q : Int) := hD 5 (by kernel_rfl)
                obtain ⟨q, hq, h5⟩ := h5
                rw [h5]
                go_simp
                exact hK _ _ _ (by simp only [inv.dstsL, inv.putT, Nat.reduceAdd, List.set_cons_zero, List.set_cons_succ, h5]; (try rfl)) (hS) (⟨_, rfl⟩) (fun _ _ h => h)
              · simp only [inv.dstsL, inv.putT, Nat.reduceAdd, List.set_cons_zero, List.set_cons_succ]
                have h0 : (vs 0) = .int .i64 skills := hD 0 (by kernel_rfl)
                have h2 : (vs 2) = .int .i64 sk := hD 2 (by kernel_rfl)
                have h6 : ∃ z : Int, (vs 6) = .int .i64 z := hD 6 (by kernel_rfl)
                obtain ⟨z, h6⟩ := h6
                have hne : W.heap.size ≠ bd := Nat.ne_of_gt hS.1.lt
                have bxx := below_box W (.cells #[.int .i64 skills, .int .i64 sk, .int .i64 z] 3)
                have hnew := heap_alloc_new W (.cells #[.int .i64 skills, .int .i64 sk, .int .i64 z] 3)
                rw [h0, h2, h6]
                go_simp
                exact hK _ _ _ (by simp only [inv.dstsL, inv.putT, Nat.reduceAdd, List.set_cons_zero, List.set_cons_succ, h0, h2, h6]; (try rfl)) (⟨hS.1.by_below bxx, gb_tr hS.2 (gb_of_below bxx _)⟩) (⟨_, rfl, ints3 hnew hne⟩) (DCn.kept (gb_of_below bxx _))
              · simp only [inv.dstsL, inv.putT, Nat.reduceAdd, List.set_cons_zero, List.set_cons_succ]
                have h7 : ∃ B, (vs 7) = .slice (some ⟨B, 0, none⟩) 3 3 ∧ IntsAt 3 bd B W := hD 7 (by kernel_rfl)
                obtain ⟨B, h7, h7b⟩ := h7
                rw [h7]
                go_simp
                exact hK _ _ _ (by simp only [inv.dstsL, inv.putT, Nat.reduceAdd, List.set_cons_zero, List.set_cons_succ, h7]; (try rfl)) (hS) (rfl) (fun _ _ h => h)
              · simp only [inv.dstsL, inv.putT, Nat.reduceAdd, List.set_cons_zero, List.set_cons_succ]
                go_simp
                exact hK _ _ _ (by simp only [inv.dstsL, inv.putT, Nat.reduceAdd, List.set_cons_zero, List.set_cons_succ]; (try rfl)) (hS) (rfl) (fun _ _ h => h)
            case rest =>
              intro vs W done hdone hS hD
              obtain ⟨g9, b9⟩ := hS
              obtain ⟨B, h7, h7b⟩ := (hD 7 (by decide) : ∃ B, vs 7 = .slice (some ⟨B, 0, none⟩) 3 3 ∧ IntsAt 3 bd B W)
              have h8 : vs 8 = .int .i64 3 := hD 8 (by decide)
              have h9 : vs 9 = .int .i64 0 := hD 9 (by decide)
              simp only [inv.dstsL, inv.putT, Nat.reduceAdd, List.set_cons_zero, List.set_cons_succ]
              rw [h7, h8, h9]
              have GX5 := Lib.hid g9
              have GB5 := Lib.hid b9
              have I3 := Lib.hid h7b
              generalize vs 0 = y0, vs 1 = y1, vs 2 = y2, vs 3 = y3, vs 4 = y4, vs 5 = y5, vs 6 = y6 at *
              clear hD hdone h7 h8 h9 g9 b9 h7b c0
              go_wp2
              go_loopw [56] (fun i wr => ∃ j : Nat, j ≤ 3 ∧ i = .int .i64 j ∧ Hid (W.grownBy wr (some bd)) ∧ Hid (Game W0 wr bd la len cap)) (fun i _ => 3 - (intOf i).toNat)
              case atStart => exact ⟨0, Nat.zero_le _, rfl, gb_refl _ _, GX5.out⟩
              case round =>
                obtain ⟨f, hf, rfl, GB6, GX6⟩ := hrel
                by_cases hf3 : f < 3
                · have hf3i : (f : Int) < 3 := by omega
                  obtain ⟨kk, c0⟩ := (I3.out.keep GB6.out).get f hf3
                  have GBW := Lib.hid (gb_tr GB3.out (gb_tr GB5.out GB6.out))
                  have k1 := gb_cellr RB.out GBW.out hrbd
                  have q0 := gb_cellr P0.out (gb_tr GB5.out GB6.out) pxb
                  have REG6 := REG.out.far G1.out.deck GBW.out
                  have SK := SkI.of_ok OKP.out
                  obtain ⟨R, hR⟩ : ∃ R, canP ps nm kk tm = R := ⟨_, rfl⟩
                  have CA := Lib.hid (fun W (b : wr.grownBy W (some bd)) (gm : Game W0 W bd la len cap) => can_is (some ⟨g, o, none⟩) N c ps nm kk tm R W (REG6.far GX6.out.deck b) (H0.out.below gm.below) SK hR)
                  have CB := Lib.hid (fun W (b : wr.grownBy W (some bd)) => rcan_is (some ⟨g, o, none⟩) N c ps nm kk tm R W (REG6.far GX6.out.deck b) hR)
                  have gr0 := gb_refl wr (some bd)
                  have gx0 := GX6.out
                  clear hR REG6 SK
                  go_wp2_with fail
                  go_region_held3 (fun w' => w'.cell? ⟨rb, 0, none⟩ = some (.slice (some ⟨g, o, none⟩) N c) ∧ w'.cell? ⟨px, 0, none⟩ = some (.string nm) ∧ Game W0 w' bd la len cap ∧ wr.grownBy w' (some bd))
                    (first | exact duo_drew ⟨k1, q0, gx0, gr0⟩ | exact ⟨k1, q0, gx0, gr0⟩ | exact duo_drew (by assumption) | exact duo_below (by assumption) hrbd pxb (by assumption) | exact duo_drew (duo_below (by assumption) hrbd pxb (by assumption)) | go_keep)
                    (first
                      | (go_at_call 12; refine (CA.out _ (duo_game (by assumption)).2 (duo_game (by assumption)).1).mono ?_; rintro e w7 ⟨rfl, b7⟩)
                      | (go_at_call 13; refine (CB.out _ (duo_game (by assumption)).2).mono ?_; rintro e w7 ⟨rfl, b7⟩))
                  all_goals (
                    rename_i hS
                    have GX7 := Lib.hid hS.2.2.1
                    have GB7 := Lib.hid (gb_tr GB6.out hS.2.2.2)
                    clear hS
                    go_wp2
                    go_roundw
                    case rel => exact ⟨f + 1, by omega, by go_num, GB7, GX7⟩
                    case measure => simp [intOf]; omega)
                · obtain rfl : f = 3 := by omega
                  go_wp2
                  go_roundw
                  case rel => exact ⟨e + 1, by omega, by go_num, gb_tr GB5.out GB6.out, GX6⟩
                  case measure => simp [intOf]; omega
          · obtain rfl : e = 5 := by omega
            go_wp2
            go_roundw
            case rel => exact ⟨j + 1, by omega, by go_num, gb_tr GB3.out GB4.out, GX4⟩
            case measure => simp [intOf]; omega
      · obtain rfl : j = N := by omega
        have T1 : decide ((j : Int) < (j : Int)) = false := decide_eq_false (by omega)
        have hcls := H0.out.below GX.out.below
        go_wp2_with fail
        refine (awake_is _ hcls).mono ?_; rintro e w4 ⟨rfl, b4⟩
        have BZ := Lib.hid (GX.out.below.trans (b4.mono GX.out.below.size))
        clear b4
        go_wp2
        go_ret
        exact ⟨rfl, BZ.out⟩
  · have t1 : decide ((len : Int) ≤ 400) = false := decide_eq_false (by omega)
    go_enter Tryd.func3, Tryd.ntmps3
    go_wp2_with fail
    refine (few_any _ _ _ _ hl).mono ?_; rintro e w' ⟨rfl, rfl⟩
    go_wp2_with fail
    refine (awake_is _ H0.out).mono ?_; rintro e w4 ⟨rfl, b4⟩
    have BZ := Lib.hid b4
    clear b4
    go_wp2
    go_ret
    exact ⟨rfl, BZ.out⟩
end Go.Proofs.YtceidbjjciejhaaDoor.reg
