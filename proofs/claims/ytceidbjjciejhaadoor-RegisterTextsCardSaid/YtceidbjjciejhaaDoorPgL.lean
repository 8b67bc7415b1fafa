/- The walks of layer 5's program: a person's line. Condition: the tables hold what their texts lay. -/
import Derived.Test.YtceidbjjciejhaaDoorPgK
import Derived.Test.YtceidbjjciejhaaDoorPgD
import Derived.Test.YtceidbjjciejhaaDoorMwJ
import Derived.Test.YtceidbjjciejhaaDoorMwCB
import Derived.Test.YtceidbjjciejhaaDoorInv
namespace Go.Proofs.YtceidbjjciejhaaDoor.reg
open Go.RowKit lex aggs kit net strs cal

/-- the words that every second place of a line has -/
def kwd (i : Nat) : List UInt8 := ([wPerson, wCom, wSk, wFrom, wUntil] : List (List UInt8)).getD i []
theorem gKws : Tryd.prog.globalNamed "permitoffice/register.keywords" = some 0 := by kernel_rfl
/-- what every call of layer 5 reads: the tables of layers 1 and 2, the words -/
structure RTabs (w : World) : Prop where
  ct : CTabs w
  kws : ∀ i : Nat, i < 5 → w.cell? ⟨0, i, none⟩ = some (.string (bs (kwd i)))
theorem RTabs.below {w w' : World} (h : RTabs w) (hb : Below w.heap.size w w') : RTabs w' where
  ct := h.ct.below hb
  kws := fun k hk => by rw [hb.cell (p := ⟨0, k, none⟩) (World.block_lt_of_cell? w _ (h.kws k hk))]; exact h.kws k hk
set_option maxRecDepth 100000 in
theorem timeText_is (t : Int) (ho : isTm t = true) (w : World) (h : RTabs w) :
    Calls Tryd.prog 45 #[.int .i64 t] w fun e w' => e = .returned (.string (bs (timeText t))) ∧ Below w.heap.size w w' := by
  have PR := Lib.hid (print_ok t ho w h.ct.tabs)
  clear h ho
  go_enter Tryd.func45, Tryd.ntmps45
  go_wp2_with fail
  refine PR.out.mono ?_; rintro e w2 ⟨rfl, b2⟩
  have B2 := Lib.hid b2
  clear b2
  go_wp2
  go_ret
  exact ⟨rfl, B2.out⟩
def valW (p : Pn) (i : Nat) : List UInt8 := ([p.nm.data.toList, Lib.itoa p.co, letters p.sk.toNat, timeText p.fr, timeText p.un] : List (List UInt8)).getD i []
theorem pnW_take (p : Pn) : ∀ i, i < 5 → (pnW p).take (2 * (i + 1)) = (pnW p).take (2 * i) ++ [kwd i, valW p i] := by
  intro i hi
  rcases (show i = 0 ∨ i = 1 ∨ i = 2 ∨ i = 3 ∨ i = 4 by omega) with rfl | rfl | rfl | rfl | rfl <;> rfl
def DLn (x k : Nat) (p : Pn) : Nat → Value → World → Prop
  | 0, v, _ => v = .pointer (some ⟨x, 0, none⟩)
  | 1, v, _ => v = .string p.nm
  | 2, v, _ => v = .pointer (some ⟨x, 1, none⟩)
  | 3, v, _ => v = .int .i64 p.co
  | 4, v, _ => v = .string (bs (Lib.itoa p.co))
  | 5, v, _ => v = .pointer (some ⟨x, 2, none⟩)
  | 6, v, _ => v = .int .i64 (k : Int)
  | 7, v, _ => v = .string (bs (letters k))
  | 8, v, _ => v = .pointer (some ⟨x, 3, none⟩)
  | 9, v, _ => v = .int .i64 p.fr
  | 10, v, _ => v = .string (bs (timeText p.fr))
  | 11, v, _ => v = .pointer (some ⟨x, 4, none⟩)
  | 12, v, _ => v = .int .i64 p.un
  | 13, v, _ => v = .string (bs (timeText p.un))
  | 14, v, W => ∃ q, v = .slice (some ⟨q, 0, none⟩) 5 5 ∧ q < W.heap.size ∧ ∀ i, i < 5 → W.cell? ⟨q, i, none⟩ = some (.string (bs (valW p i)))
  | 15, v, W => ∃ q, v = .slice (some ⟨q, 0, none⟩) 5 5 ∧ q < W.heap.size ∧ ∀ i, i < 5 → W.cell? ⟨q, i, none⟩ = some (.string (bs (valW p i)))
  | _, _, _ => True
theorem cell_atR {w : World} {b t : Nat} {A : Array Value} (h : w.heap[b]? = some (.cells A t (0, 0))) (i : Nat) : w.cell? ⟨b, i, none⟩ = A[i]? ∧ w.frozen? ⟨b, i, none⟩ = false := by simp [World.cell?, World.frozen?, h]
theorem DLn.kept {x k : Nat} {p : Pn} {W W' : World} (hb : Below W.heap.size W W') : ∀ j v, DLn x k p j v W → DLn x k p j v W'
  | 0, _, h | 1, _, h | 2, _, h | 3, _, h | 4, _, h | 5, _, h | 6, _, h | 7, _, h | 8, _, h | 9, _, h | 10, _, h | 11, _, h | 12, _, h | 13, _, h | _ + 16, _, h => h
  | 14, _, ⟨q, h1, h2, h3⟩ | 15, _, ⟨q, h1, h2, h3⟩ => ⟨q, h1, Nat.lt_of_lt_of_le h2 hb.size, fun i hi => by rw [hb.cell (p := ⟨q, i, none⟩) h2]; exact h3 i hi⟩
set_option maxRecDepth 100000 in
set_option maxHeartbeats 4000000 in
theorem lineOf_is (p : Pn) (hp : pnE p = 0) (w : World) (h : RTabs w) :
    Calls Tryd.prog 30 #[pnV p] w fun e w' => e = .returned (.string (bs (Lib.join (pnW p) [32]))) ∧ Below w.heap.size w w' := by
  obtain ⟨-, ⟨⟨c0, c1⟩, s0, s1⟩, f0, f1, u1⟩ := pnE_zero.1 hp
  have hws := wsum_le (pn_wd hp)
  have hwl : (pnW p).length = 10 := rfl
  rw [hwl] at hws
  obtain ⟨nm, co, sk, fr, un⟩ := p
  dsimp only at c0 c1 s0 s1 f0 f1 u1
  have HWS := Lib.hid hws
  have hfr : isTm fr = true := decide_eq_true (by omega)
  have hun : isTm un = true := decide_eq_true (by omega)
  obtain ⟨k, rfl⟩ : ∃ k : Nat, sk = k := ⟨sk.toNat, by omega⟩
  have hk : k < 32 := by omega
  have bx := below_box w (.cells #[.string nm, .int .i64 co, .int .i64 (k : Int), .int .i64 fr, .int .i64 un] 32)
  have PA := PnAt.new w ⟨nm, co, k, fr, un⟩ 32
  obtain ⟨x, hx⟩ : ∃ x, w.heap.size = x := ⟨_, rfl⟩
  obtain ⟨W1, hW1⟩ : ∃ W, w.alloc (.cells #[.string nm, .int .i64 co, .int .i64 (k : Int), .int .i64 fr, .int .i64 un] 32) = W := ⟨_, rfl⟩
  have hs1 : W1.heap.size = x + 1 := by rw [← hW1, ← hx]; simp
  dsimp only at PA
  have RT0 := h.below bx
  rw [hW1] at bx RT0
  have PA2 : PnAt W1 x ⟨nm, co, k, fr, un⟩ := by rw [← hW1, ← hx]; exact PA
  have BX := Lib.hid bx
  have CP : Hid (∀ W, Below (x + 1) W1 W → W.cell? ⟨x, 0, none⟩ = some (.string nm) ∧ W.cell? ⟨x, 1, none⟩ = some (.int .i64 co) ∧ W.cell? ⟨x, 2, none⟩ = some (.int .i64 (k : Int)) ∧ W.cell? ⟨x, 3, none⟩ = some (.int .i64 fr) ∧ W.cell? ⟨x, 4, none⟩ = some (.int .i64 un)) := fun W b => by
    obtain ⟨q0, q1, q2, q3, q4, -⟩ := PA2.below b (by omega)
    exact ⟨q0, q1, q2, q3, q4⟩
  have RT : Hid (∀ W, Below (x + 1) W1 W → RTabs W) := fun W b => RT0.below (by rw [hs1]; exact b)
  have HS1 := Lib.hid hs1
  clear PA PA2 RT0 bx h hp hws hs1
  unfold pnV
  dsimp only
  go_enter Tryd.func30, Tryd.ntmps30
  go_wp2_with fail
  (try rw [hW1])
  (try rw [hx])
  clear hW1
  have BS0 : Hid (Below (x + 1) W1 W1.drew) := (Below.refl _ _).drew
  refine inv.wp_region_inv (fun _ W => Below (x + 1) W1 W) (DLn x k ⟨nm, co, k, fr, un⟩) (by kernel_rfl) (by kernel_rfl) BS0.out ?steps ?rest
  case steps =>
    refine ⟨fun vs W done hS hD hno K hK => ?_, fun vs W done hS hD hno K hK => ?_, fun vs W done hS hD hno K hK => ?_, fun vs W done hS hD hno K hK => ?_, fun vs W done hS hD hno K hK => ?_, fun vs W done hS hD hno K hK => ?_, fun vs W done hS hD hno K hK => ?_, fun vs W done hS hD hno K hK => ?_, fun vs W done hS hD hno K hK => ?_, fun vs W done hS hD hno K hK => ?_, fun vs W done hS hD hno K hK => ?_, fun vs W done hS hD hno K hK => ?_, fun vs W done hS hD hno K hK => ?_, fun vs W done hS hD hno K hK => ?_, fun vs W done hS hD hno K hK => ?_, fun vs W done hS hD hno K hK => ?_, trivial⟩
    · simp only [inv.dstsL, inv.putT, Nat.reduceAdd, List.set_cons_zero, List.set_cons_succ]
      go_simp
      exact hK _ _ _ (by simp only [inv.dstsL, inv.putT, Nat.reduceAdd, List.set_cons_zero, List.set_cons_succ]; (try rfl)) (hS) (rfl) (fun _ _ h => h)
    · simp only [inv.dstsL, inv.putT, Nat.reduceAdd, List.set_cons_zero, List.set_cons_succ]
      have h0 : (vs 0) = .pointer (some ⟨x, 0, none⟩) := hD 0 (by kernel_rfl)
      obtain ⟨q0, q1, q2, q3, q4⟩ := CP.out W hS
      rw [h0]
      go_simp
      exact hK _ _ _ (by simp only [inv.dstsL, inv.putT, Nat.reduceAdd, List.set_cons_zero, List.set_cons_succ, h0]; (try rfl)) (hS) (rfl) (fun _ _ h => h)
    · simp only [inv.dstsL, inv.putT, Nat.reduceAdd, List.set_cons_zero, List.set_cons_succ]
      go_simp
      exact hK _ _ _ (by simp only [inv.dstsL, inv.putT, Nat.reduceAdd, List.set_cons_zero, List.set_cons_succ]; (try rfl)) (hS) (rfl) (fun _ _ h => h)
    · simp only [inv.dstsL, inv.putT, Nat.reduceAdd, List.set_cons_zero, List.set_cons_succ]
      have h2 : (vs 2) = .pointer (some ⟨x, 1, none⟩) := hD 2 (by kernel_rfl)
      obtain ⟨q0, q1, q2, q3, q4⟩ := CP.out W hS
      rw [h2]
      go_simp
      exact hK _ _ _ (by simp only [inv.dstsL, inv.putT, Nat.reduceAdd, List.set_cons_zero, List.set_cons_succ, h2]; (try rfl)) (hS) (rfl) (fun _ _ h => h)
    · simp only [inv.dstsL, inv.putT, Nat.reduceAdd, List.set_cons_zero, List.set_cons_succ]
      have h3 : (vs 3) = .int .i64 (⟨nm, co, k, fr, un⟩ : Pn).co := hD 3 (by kernel_rfl)
      rw [h3]
      go_simp
      refine (text_any co W (RT.out W hS).ct.tabs (by omega) (by omega)).mono ?_; rintro e W2 ⟨rfl, b2⟩
      exact hK _ _ _ (by simp only [inv.dstsL, inv.putT, Nat.reduceAdd, List.set_cons_zero, List.set_cons_succ, h3]; (try rfl)) (hS.trans (b2.mono (by have := hS.size; have := HS1.out; omega))) (rfl) (DLn.kept b2)
    · simp only [inv.dstsL, inv.putT, Nat.reduceAdd, List.set_cons_zero, List.set_cons_succ]
      go_simp
      exact hK _ _ _ (by simp only [inv.dstsL, inv.putT, Nat.reduceAdd, List.set_cons_zero, List.set_cons_succ]; (try rfl)) (hS) (rfl) (fun _ _ h => h)
    · simp only [inv.dstsL, inv.putT, Nat.reduceAdd, List.set_cons_zero, List.set_cons_succ]
      have h5 : (vs 5) = .pointer (some ⟨x, 2, none⟩) := hD 5 (by kernel_rfl)
      obtain ⟨q0, q1, q2, q3, q4⟩ := CP.out W hS
      rw [h5]
      go_simp
      exact hK _ _ _ (by simp only [inv.dstsL, inv.putT, Nat.reduceAdd, List.set_cons_zero, List.set_cons_succ, h5]; (try rfl)) (hS) (rfl) (fun _ _ h => h)
    · simp only [inv.dstsL, inv.putT, Nat.reduceAdd, List.set_cons_zero, List.set_cons_succ]
      have h6 : (vs 6) = .int .i64 (k : Int) := hD 6 (by kernel_rfl)
      rw [h6]
      go_simp
      refine (lettersOf_is k hk W).mono ?_; rintro e W2 ⟨rfl, b2⟩
      exact hK _ _ _ (by simp only [inv.dstsL, inv.putT, Nat.reduceAdd, List.set_cons_zero, List.set_cons_succ, h6]; (try rfl)) (hS.trans (b2.mono (by have := hS.size; have := HS1.out; omega))) (rfl) (DLn.kept b2)
    · simp only [inv.dstsL, inv.putT, Nat.reduceAdd, List.set_cons_zero, List.set_cons_succ]
      go_simp
      exact hK _ _ _ (by simp only [inv.dstsL, inv.putT, Nat.reduceAdd, List.set_cons_zero, List.set_cons_succ]; (try rfl)) (hS) (rfl) (fun _ _ h => h)
    · simp only [inv.dstsL, inv.putT, Nat.reduceAdd, List.set_cons_zero, List.set_cons_succ]
      have h8 : (vs 8) = .pointer (some ⟨x, 3, none⟩) := hD 8 (by kernel_rfl)
      obtain ⟨q0, q1, q2, q3, q4⟩ := CP.out W hS
      rw [h8]
      go_simp
      exact hK _ _ _ (by simp only [inv.dstsL, inv.putT, Nat.reduceAdd, List.set_cons_zero, List.set_cons_succ, h8]; (try rfl)) (hS) (rfl) (fun _ _ h => h)
    · simp only [inv.dstsL, inv.putT, Nat.reduceAdd, List.set_cons_zero, List.set_cons_succ]
      have h9 : (vs 9) = .int .i64 (⟨nm, co, k, fr, un⟩ : Pn).fr := hD 9 (by kernel_rfl)
      rw [h9]
      go_simp
      refine (timeText_is fr hfr W (RT.out W hS)).mono ?_; rintro e W2 ⟨rfl, b2⟩
      exact hK _ _ _ (by simp only [inv.dstsL, inv.putT, Nat.reduceAdd, List.set_cons_zero, List.set_cons_succ, h9]; (try rfl)) (hS.trans (b2.mono (by have := hS.size; have := HS1.out; omega))) (rfl) (DLn.kept b2)
    · simp only [inv.dstsL, inv.putT, Nat.reduceAdd, List.set_cons_zero, List.set_cons_succ]
      go_simp
      exact hK _ _ _ (by simp only [inv.dstsL, inv.putT, Nat.reduceAdd, List.set_cons_zero, List.set_cons_succ]; (try rfl)) (hS) (rfl) (fun _ _ h => h)
    · simp only [inv.dstsL, inv.putT, Nat.reduceAdd, List.set_cons_zero, List.set_cons_succ]
      have h11 : (vs 11) = .pointer (some ⟨x, 4, none⟩) := hD 11 (by kernel_rfl)
      obtain ⟨q0, q1, q2, q3, q4⟩ := CP.out W hS
      rw [h11]
      go_simp
      exact hK _ _ _ (by simp only [inv.dstsL, inv.putT, Nat.reduceAdd, List.set_cons_zero, List.set_cons_succ, h11]; (try rfl)) (hS) (rfl) (fun _ _ h => h)
    · simp only [inv.dstsL, inv.putT, Nat.reduceAdd, List.set_cons_zero, List.set_cons_succ]
      have h12 : (vs 12) = .int .i64 (⟨nm, co, k, fr, un⟩ : Pn).un := hD 12 (by kernel_rfl)
      rw [h12]
      go_simp
      refine (timeText_is un hun W (RT.out W hS)).mono ?_; rintro e W2 ⟨rfl, b2⟩
      exact hK _ _ _ (by simp only [inv.dstsL, inv.putT, Nat.reduceAdd, List.set_cons_zero, List.set_cons_succ, h12]; (try rfl)) (hS.trans (b2.mono (by have := hS.size; have := HS1.out; omega))) (rfl) (DLn.kept b2)
    · simp only [inv.dstsL, inv.putT, Nat.reduceAdd, List.set_cons_zero, List.set_cons_succ]
      have h1 : (vs 1) = .string (⟨nm, co, k, fr, un⟩ : Pn).nm := hD 1 (by kernel_rfl)
      have h4 : (vs 4) = .string (bs (Lib.itoa (⟨nm, co, k, fr, un⟩ : Pn).co)) := hD 4 (by kernel_rfl)
      have h7 : (vs 7) = .string (bs (letters k)) := hD 7 (by kernel_rfl)
      have h10 : (vs 10) = .string (bs (timeText (⟨nm, co, k, fr, un⟩ : Pn).fr)) := hD 10 (by kernel_rfl)
      have h13 : (vs 13) = .string (bs (timeText (⟨nm, co, k, fr, un⟩ : Pn).un)) := hD 13 (by kernel_rfl)
      rw [h1, h4, h7, h10, h13]
      have b2 := below_box W (.cells #[.string nm, .string (bs (Lib.itoa co)), .string (bs (letters k)), .string (bs (timeText fr)), .string (bs (timeText un))] 9)
      have hnew := heap_alloc_new W (.cells #[.string nm, .string (bs (Lib.itoa co)), .string (bs (letters k)), .string (bs (timeText fr)), .string (bs (timeText un))] 9)
      go_simp
      exact hK _ _ _ (by simp only [inv.dstsL, inv.putT, Nat.reduceAdd, List.set_cons_zero, List.set_cons_succ, h1, h4, h7, h10, h13]; (try rfl)) (hS.trans (b2.mono (by have := hS.size; have := HS1.out; omega))) (⟨_, rfl, lt_of_block hnew, fun i hi => by rw [(cell_atR hnew i).1]; rcases (show i = 0 ∨ i = 1 ∨ i = 2 ∨ i = 3 ∨ i = 4 by omega) with rfl | rfl | rfl | rfl | rfl <;> first | rfl | (show _ = some (Value.string (bs nm.data.toList)); rw [bs_of]; rfl)⟩) (DLn.kept b2)
    · simp only [inv.dstsL, inv.putT, Nat.reduceAdd, List.set_cons_zero, List.set_cons_succ]
      have h14 : ∃ q, (vs 14) = .slice (some ⟨q, 0, none⟩) 5 5 ∧ q < W.heap.size ∧ ∀ i, i < 5 → W.cell? ⟨q, i, none⟩ = some (.string (bs (valW (⟨nm, co, k, fr, un⟩ : Pn) i))) := hD 14 (by kernel_rfl)
      obtain ⟨q, h14, hq, hc⟩ := h14
      rw [h14]
      go_simp
      exact hK _ _ _ (by simp only [inv.dstsL, inv.putT, Nat.reduceAdd, List.set_cons_zero, List.set_cons_succ, h14]; (try rfl)) (hS) (⟨q, rfl, hq, hc⟩) (fun _ _ h => h)
  case rest =>
    intro vs W done hdone hS hD
    obtain ⟨q, h15, hq, hc⟩ : ∃ q, vs 15 = .slice (some ⟨q, 0, none⟩) 5 5 ∧ q < W.heap.size ∧ ∀ i, i < 5 → W.cell? ⟨q, i, none⟩ = some (.string (bs (valW ⟨nm, co, k, fr, un⟩ i))) := hD 15 (by decide)
    have BL := Lib.hid hS
    simp only [inv.dstsL, inv.putT, Nat.reduceAdd, List.set_cons_zero, List.set_cons_succ]
    rw [h15]
    have HQ := Lib.hid hq
    have HC := Lib.hid hc
    generalize vs 0 = y0, vs 1 = y1, vs 2 = y2, vs 3 = y3, vs 4 = y4, vs 5 = y5, vs 6 = y6, vs 7 = y7, vs 8 = y8, vs 9 = y9, vs 10 = y10, vs 11 = y11, vs 12 = y12, vs 13 = y13, vs 14 = y14 at *
    clear hD hdone hS h15 hq hc
    have hsz : x + 1 ≤ W.heap.size := by have := BL.out.size; have := HS1.out; omega
    have k0 := (RT.out W BL.out).kws 0 (by decide)
    have k1 := (RT.out W BL.out).kws 1 (by decide)
    have k2 := (RT.out W BL.out).kws 2 (by decide)
    have k3 := (RT.out W BL.out).kws 3 (by decide)
    have k4 := (RT.out W BL.out).kws 4 (by decide)
    go_wp2_with fail
    clear k0 k1 k2 k3 k4
    obtain ⟨i0, hi, hz0, hz1, hz2⟩ := info_parts info9
    go_loopw [23, 4] (fun iv wv wr => ∃ i : Nat, i ≤ 5 ∧ iv = .int .i64 i ∧ Hid (StrsAt wr W.heap.size wv ((pnW ⟨nm, co, k, fr, un⟩).take (2 * i))) ∧ Hid (Below W.heap.size W wr)) (fun iv _ _ => 5 - (intOf iv).toNat)
    case atStart => exact ⟨0, by decide, rfl, StrsAt.nil _ _, Below.refl _ _⟩
    case round =>
      obtain ⟨i, hi5, rfl, ST, BW⟩ := hrel
      by_cases hlt : i < 5
      · have hii : (i : Int) < 5 := by omega
        obtain ⟨A, hA⟩ : ∃ A : Array Value, A = #[.string (bs (kwd 0)), .string (bs (kwd 1)), .string (bs (kwd 2)), .string (bs (kwd 3)), .string (bs (kwd 4))] := ⟨_, rfl⟩
        have hIx : ∀ w, (Instr.index 76 (.agg A) (.int .i64 i)).run Tryd.prog w = .ok (.string (bs (kwd i))) w := by
          rw [hA]
          rcases (show i = 0 ∨ i = 1 ∨ i = 2 ∨ i = 3 ∨ i = 4 by omega) with rfl | rfl | rfl | rfl | rfl <;> first | exact fun w => rfl | (intro w; go_simp; done) | (intro w; go_wp2; done)
        have hAi : A[i]? = some (.string (bs (kwd i))) := by
          rw [hA]
          rcases (show i = 0 ∨ i = 1 ∨ i = 2 ∨ i = 3 ∨ i = 4 by omega) with rfl | rfl | rfl | rfl | rfl <;> rfl
        have c0 : wr.cell? ⟨q, i, none⟩ = some (.string (bs (valW ⟨nm, co, k, fr, un⟩ i))) := by rw [BW.out.cell (p := ⟨q, i, none⟩) HQ.out]; exact HC.out i hlt
        have hlen : ((pnW ⟨nm, co, k, fr, un⟩).take (2 * i)).length = 2 * i := by rw [List.length_take]; show min (2 * i) 10 = _; omega
        have hown : wr.ownsRow W.heap.size 9 1 u4 (2 * i) (((pnW ⟨nm, co, k, fr, un⟩).take (2 * i)).map fun l => .string (bs l)) := by
          have h := ST.out
          unfold StrsAt at h
          rw [hlen] at h; exact h
        clear ST
        have B0 : Hid (Below W.heap.size W (wr.alloc (.cells #[.string (bs (kwd i)), .string (bs (valW ⟨nm, co, k, fr, un⟩ i))] 9))) := BW.out.alloc BW.out.size _
        have hws0 := BW.out.size
        rw [← hA]
        clear hA
        go_wp2_with (at_builtin; refine wpList_append_own _ rfl (.tmp 27) (.tmp 33) 61 rfl W.heap.size 9 i0 (.string ByteArray.empty) 1 16 Tryd.underlying61 hi hz0 hz1 hz2 rfl (by decide) u4 (2 * i) _ rfl (World.ownsRow.alloc hown _) ⟨wr.heap.size, 0, none⟩ 2 2 [.string (bs (kwd i)), .string (bs (valW ⟨nm, co, k, fr, un⟩ i))] rfl rfl ?qc1 ?qc2 ?qc3 ?qc4 ?qc5 ?_)
        case qc1 =>
          intro j u hu
          rw [Go.WideShapes.add_plain, Nat.zero_add]
          exact (cell_atR (heap_alloc_new wr _) j).1.trans (by simpa using hu)
        case qc2 => intro u hu; simp at hu; rcases hu with rfl | rfl <;> rfl
        case qc3 => unfold maxLen; omega
        case qc4 => omega
        case qc5 => simp; omega
        intro v' w' hown' hgrow hnil'
        have BN := Lib.hid (B0.out.grown hgrow (by simp; omega) (fun k hk => (World.ownsRow.lt hown k hk).1))
        have SN : Hid (StrsAt w' W.heap.size v' ((pnW ⟨nm, co, k, fr, un⟩).take (2 * (i + 1)))) := by
          refine Lib.hid ?_
          rw [pnW_take _ i hlt]
          exact StrsAt.push_many (by rw [hlen, List.map_take]; exact hown')
        clear hown hown' hgrow hnil' c0 hAi B0 BW hws0
        go_wp2
        go_roundw
        case rel => exact ⟨i + 1, by omega, by go_num, SN, BN⟩
        case measure => simp [intOf]; omega
      · obtain rfl : i = 5 := by omega
        have hT : (pnW ⟨nm, co, k, fr, un⟩).take (2 * 5) = pnW ⟨nm, co, k, fr, un⟩ := List.take_of_length_le (by show 10 ≤ 10; decide)
        have ST2 := ST.out
        rw [hT] at ST2
        have JN := Lib.hid (join_any ST2 (by have := HWS.out; omega))
        clear ST2 hT
        go_wp2_with fail
        refine JN.out.mono ?_; rintro e w9 ⟨rfl, b9⟩
        have B9 := Lib.hid (BX.out.trans ((BL.out.trans ((BW.out.trans (b9.mono BW.out.size)).mono hsz)).mono (by rw [hx]; omega)))
        clear b9
        go_wp2
        go_ret
        exact ⟨rfl, B9.out⟩
end Go.Proofs.YtceidbjjciejhaaDoor.reg
