/- Joined texts (one file of a claim): PgL, PgM, PgN, Inv4, PgI, RgF, Inv3, RgJ, PgO, PgP, RgG, RTx, RNmP, MwRA, Inv2, RgQ, MwRC, RgR, RgU, LaidS, RgT, RzB. Each one's own remark stands before it. -/
import Derived.Test.YthdjpmiohfaphaaGreatDoorPgK
import Derived.Test.YthdjpmiohfaphaaGreatDoorPgD
import Derived.Test.YthdjpmiohfaphaaGreatDoorMwJ
import Derived.Test.YthdjpmiohfaphaaGreatDoorMwCB
import Derived.Test.YthdjpmiohfaphaaGreatDoorInv
import Derived.Test.YthdjpmiohfaphaaGreatDoorPgB
import Derived.Test.YthdjpmiohfaphaaGreatDoorMkNm
import Derived.Test.YthdjpmiohfaphaaGreatDoorPgG
import Derived.Test.YthdjpmiohfaphaaGreatDoorRgA
import Derived.Test.YthdjpmiohfaphaaGreatDoorRgI
import Derived.Test.YthdjpmiohfaphaaGreatDoorMwL
import Derived.Test.YthdjpmiohfaphaaGreatDoorMwW
import Derived.Test.YthdjpmiohfaphaaGreatDoorRgL
import Derived.Test.YthdjpmiohfaphaaGreatDoorLexM
import Derived.Test.YthdjpmiohfaphaaGreatDoorStrs
import Derived.Test.YthdjpmiohfaphaaGreatDoorNumP
import Derived.Test.YthdjpmiohfaphaaGreatDoorNamP
import Derived.BigGuardPart
import Derived.Test.YthdjpmiohfaphaaGreatDoorRgC
import Derived.Test.YthdjpmiohfaphaaGreatDoorRgN
import Derived.Deep.QuietTactic
import Derived.BigQuiet
import Derived.Test.YthdjpmiohfaphaaGreatDoorMwR
import Derived.Test.YthdjpmiohfaphaaGreatDoorRbX
import Derived.Lib.LaidTab
import Derived.Deep.Slices
import Derived.Deep.Grids
import Derived.Lib.SmallJoins
import Derived.OpenShut

/- The walks of layer 5's program: a person's line. Condition: the tables hold what their texts lay. -/
namespace Go.Proofs.YthdjpmiohfaphaaGreatDoor.reg
open Go.RowKit lex aggs kit net strs cal

/-- the words that every second place of a line has -/
def kwd (i : Nat) : List UInt8 := ([wPerson, wCom, wSk, wFrom, wUntil] : List (List UInt8)).getD i []
theorem gKws : Tryz.prog.globalNamed "permitoffice/register.keywords" = some 0 := by kernel_rfl
/-- what every call of layer 5 reads: the tables of layers 1 and 2, the words -/
structure RTabs (w : World) : Prop where
  ct : CTabs w
  kws : ∀ i : Nat, i < 5 → w.cell? ⟨0, i, none⟩ = some (.string (bs (kwd i)))
theorem RTabs.below {w w' : World} (h : RTabs w) (hb : Below w.heap.size w w') : RTabs w' where
  ct := h.ct.below hb
  kws := fun k hk => by rw [hb.cell (p := ⟨0, k, none⟩) (World.block_lt_of_cell? w _ (h.kws k hk))]; exact h.kws k hk
set_option maxRecDepth 100000 in
theorem timeText_is (t : Int) (ho : isTm t = true) (w : World) (h : RTabs w) :
    Calls Tryz.prog 55 #[.int .i64 t] w fun e w' => e = .returned (.string (bs (timeText t))) ∧ Below w.heap.size w w' := by
  have PR := Lib.hid (print_ok t ho w h.ct.tabs)
  clear h ho
  go_enter Tryz.func55, Tryz.ntmps55
  go_wp2_with fail
  refine PR.out.mono ?_; rintro e w2 ⟨rfl, b2⟩
  have B2 := Lib.hid b2
  clear b2
  go_wp2
  go_ret
  exact ⟨rfl, B2.out⟩
def valW (p : Pn) (i : Nat) : List UInt8 := ([p.nm.data.toList, Lib.itoa p.co, letters p.sk.toNat, timeText p.fr, timeText p.un] : List (List UInt8)).getD i []
theorem pnW_take (p : Pn) : ∀ i, i < 5 → (pnW p).take (2 * (i + 1)) = (pnW p).take (2 * i) ++ [kwd i, valW p i] := by
  intro i hi
  rcases (show i = 0 ∨ i = 1 ∨ i = 2 ∨ i = 3 ∨ i = 4 by omega) with rfl | rfl | rfl | rfl | rfl <;> rfl
def DLn (x k : Nat) (p : Pn) : Nat → Value → World → Prop
  | 0, v, _ => v = .pointer (some ⟨x, 0, none⟩)
  | 1, v, _ => v = .string p.nm
  | 2, v, _ => v = .pointer (some ⟨x, 1, none⟩)
  | 3, v, _ => v = .int .i64 p.co
  | 4, v, _ => v = .string (bs (Lib.itoa p.co))
  | 5, v, _ => v = .pointer (some ⟨x, 2, none⟩)
  | 6, v, _ => v = .int .i64 (k : Int)
  | 7, v, _ => v = .string (bs (letters k))
  | 8, v, _ => v = .pointer (some ⟨x, 3, none⟩)
  | 9, v, _ => v = .int .i64 p.fr
  | 10, v, _ => v = .string (bs (timeText p.fr))
  | 11, v, _ => v = .pointer (some ⟨x, 4, none⟩)
  | 12, v, _ => v = .int .i64 p.un
  | 13, v, _ => v = .string (bs (timeText p.un))
  | 14, v, W => ∃ q, v = .slice (some ⟨q, 0, none⟩) 5 5 ∧ q < W.heap.size ∧ ∀ i, i < 5 → W.cell? ⟨q, i, none⟩ = some (.string (bs (valW p i)))
  | 15, v, W => ∃ q, v = .slice (some ⟨q, 0, none⟩) 5 5 ∧ q < W.heap.size ∧ ∀ i, i < 5 → W.cell? ⟨q, i, none⟩ = some (.string (bs (valW p i)))
  | _, _, _ => True
theorem cell_atR {w : World} {b t : Nat} {A : Array Value} (h : w.heap[b]? = some (.cells A t (0, 0))) (i : Nat) : w.cell? ⟨b, i, none⟩ = A[i]? ∧ w.frozen? ⟨b, i, none⟩ = false := by simp [World.cell?, World.frozen?, h]
theorem DLn.kept {x k : Nat} {p : Pn} {W W' : World} (hb : Below W.heap.size W W') : ∀ j v, DLn x k p j v W → DLn x k p j v W'
  | 0, _, h | 1, _, h | 2, _, h | 3, _, h | 4, _, h | 5, _, h | 6, _, h | 7, _, h | 8, _, h | 9, _, h | 10, _, h | 11, _, h | 12, _, h | 13, _, h | _ + 16, _, h => h
  | 14, _, ⟨q, h1, h2, h3⟩ | 15, _, ⟨q, h1, h2, h3⟩ => ⟨q, h1, Nat.lt_of_lt_of_le h2 hb.size, fun i hi => by rw [hb.cell (p := ⟨q, i, none⟩) h2]; exact h3 i hi⟩
set_option maxRecDepth 100000 in
set_option maxHeartbeats 4000000 in
theorem lineOf_is (p : Pn) (hp : pnE p = 0) (w : World) (h : RTabs w) :
    Calls Tryz.prog 35 #[pnV p] w fun e w' => e = .returned (.string (bs (Lib.join (pnW p) [32]))) ∧ Below w.heap.size w w' := by
  obtain ⟨-, ⟨⟨c0, c1⟩, s0, s1⟩, f0, f1, u1⟩ := pnE_zero.1 hp
  have hws := wsum_le (pn_wd hp)
  have hwl : (pnW p).length = 10 := rfl
  rw [hwl] at hws
  obtain ⟨nm, co, sk, fr, un⟩ := p
  dsimp only at c0 c1 s0 s1 f0 f1 u1
  have HWS := Lib.hid hws
  have hfr : isTm fr = true := decide_eq_true (by omega)
  have hun : isTm un = true := decide_eq_true (by omega)
  obtain ⟨k, rfl⟩ : ∃ k : Nat, sk = k := ⟨sk.toNat, by omega⟩
  have hk : k < 32 := by omega
  have bx := below_box w (.cells #[.string nm, .int .i64 co, .int .i64 (k : Int), .int .i64 fr, .int .i64 un] 27)
  have PA := PnAt.new w ⟨nm, co, k, fr, un⟩ 27
  obtain ⟨x, hx⟩ : ∃ x, w.heap.size = x := ⟨_, rfl⟩
  obtain ⟨W1, hW1⟩ : ∃ W, w.alloc (.cells #[.string nm, .int .i64 co, .int .i64 (k : Int), .int .i64 fr, .int .i64 un] 27) = W := ⟨_, rfl⟩
  have hs1 : W1.heap.size = x + 1 := by rw [← hW1, ← hx]; simp
  dsimp only at PA
  have RT0 := h.below bx
  rw [hW1] at bx RT0
  have PA2 : PnAt W1 x ⟨nm, co, k, fr, un⟩ := by rw [← hW1, ← hx]; exact PA
  have BX := Lib.hid bx
  have CP : Hid (∀ W, Below (x + 1) W1 W → W.cell? ⟨x, 0, none⟩ = some (.string nm) ∧ W.cell? ⟨x, 1, none⟩ = some (.int .i64 co) ∧ W.cell? ⟨x, 2, none⟩ = some (.int .i64 (k : Int)) ∧ W.cell? ⟨x, 3, none⟩ = some (.int .i64 fr) ∧ W.cell? ⟨x, 4, none⟩ = some (.int .i64 un)) := fun W b => by
    obtain ⟨q0, q1, q2, q3, q4, -⟩ := PA2.below b (by omega)
    exact ⟨q0, q1, q2, q3, q4⟩
  have RT : Hid (∀ W, Below (x + 1) W1 W → RTabs W) := fun W b => RT0.below (by rw [hs1]; exact b)
  have HS1 := Lib.hid hs1
  clear PA PA2 RT0 bx h hp hws hs1
  unfold pnV
  dsimp only
  go_enter Tryz.func35, Tryz.ntmps35
  go_wp2_with fail
  (try rw [hW1])
  (try rw [hx])
  clear hW1
  have BS0 : Hid (Below (x + 1) W1 W1.drew) := (Below.refl _ _).drew
  refine inv.wp_region_inv (fun _ W => Below (x + 1) W1 W) (DLn x k ⟨nm, co, k, fr, un⟩) (by kernel_rfl) (by kernel_rfl) BS0.out ?steps ?rest
  case steps =>
    refine ⟨fun vs W done hS hD hno K hK => ?_, fun vs W done hS hD hno K hK => ?_, fun vs W done hS hD hno K hK => ?_, fun vs W done hS hD hno K hK => ?_, fun vs W done hS hD hno K hK => ?_, fun vs W done hS hD hno K hK => ?_, fun vs W done hS hD hno K hK => ?_, fun vs W done hS hD hno K hK => ?_, fun vs W done hS hD hno K hK => ?_, fun vs W done hS hD hno K hK => ?_, fun vs W done hS hD hno K hK => ?_, fun vs W done hS hD hno K hK => ?_, fun vs W done hS hD hno K hK => ?_, fun vs W done hS hD hno K hK => ?_, fun vs W done hS hD hno K hK => ?_, fun vs W done hS hD hno K hK => ?_, trivial⟩
    · simp only [inv.dstsL, inv.putT, Nat.reduceAdd, List.set_cons_zero, List.set_cons_succ]
      go_simp
      exact hK _ _ _ (by simp only [inv.dstsL, inv.putT, Nat.reduceAdd, List.set_cons_zero, List.set_cons_succ]; (try rfl)) (hS) (rfl) (fun _ _ h => h)
    · simp only [inv.dstsL, inv.putT, Nat.reduceAdd, List.set_cons_zero, List.set_cons_succ]
      have h0 : (vs 0) = .pointer (some ⟨x, 0, none⟩) := hD 0 (by kernel_rfl)
      obtain ⟨q0, q1, q2, q3, q4⟩ := CP.out W hS
      rw [h0]
      go_simp
      exact hK _ _ _ (by simp only [inv.dstsL, inv.putT, Nat.reduceAdd, List.set_cons_zero, List.set_cons_succ, h0]; (try rfl)) (hS) (rfl) (fun _ _ h => h)
    · simp only [inv.dstsL, inv.putT, Nat.reduceAdd, List.set_cons_zero, List.set_cons_succ]
      go_simp
      exact hK _ _ _ (by simp only [inv.dstsL, inv.putT, Nat.reduceAdd, List.set_cons_zero, List.set_cons_succ]; (try rfl)) (hS) (rfl) (fun _ _ h => h)
    · simp only [inv.dstsL, inv.putT, Nat.reduceAdd, List.set_cons_zero, List.set_cons_succ]
      have h2 : (vs 2) = .pointer (some ⟨x, 1, none⟩) := hD 2 (by kernel_rfl)
      obtain ⟨q0, q1, q2, q3, q4⟩ := CP.out W hS
      rw [h2]
      go_simp
      exact hK _ _ _ (by simp only [inv.dstsL, inv.putT, Nat.reduceAdd, List.set_cons_zero, List.set_cons_succ, h2]; (try rfl)) (hS) (rfl) (fun _ _ h => h)
    · simp only [inv.dstsL, inv.putT, Nat.reduceAdd, List.set_cons_zero, List.set_cons_succ]
      have h3 : (vs 3) = .int .i64 (⟨nm, co, k, fr, un⟩ : Pn).co := hD 3 (by kernel_rfl)
      rw [h3]
      go_simp
      refine (text_any co W (RT.out W hS).ct.tabs (by omega) (by omega)).mono ?_; rintro e W2 ⟨rfl, b2⟩
      exact hK _ _ _ (by simp only [inv.dstsL, inv.putT, Nat.reduceAdd, List.set_cons_zero, List.set_cons_succ, h3]; (try rfl)) (hS.trans (b2.mono (by have := hS.size; have := HS1.out; omega))) (rfl) (DLn.kept b2)
    · simp only [inv.dstsL, inv.putT, Nat.reduceAdd, List.set_cons_zero, List.set_cons_succ]
      go_simp
      exact hK _ _ _ (by simp only [inv.dstsL, inv.putT, Nat.reduceAdd, List.set_cons_zero, List.set_cons_succ]; (try rfl)) (hS) (rfl) (fun _ _ h => h)
    · simp only [inv.dstsL, inv.putT, Nat.reduceAdd, List.set_cons_zero, List.set_cons_succ]
      have h5 : (vs 5) = .pointer (some ⟨x, 2, none⟩) := hD 5 (by kernel_rfl)
      obtain ⟨q0, q1, q2, q3, q4⟩ := CP.out W hS
      rw [h5]
      go_simp
      exact hK _ _ _ (by simp only [inv.dstsL, inv.putT, Nat.reduceAdd, List.set_cons_zero, List.set_cons_succ, h5]; (try rfl)) (hS) (rfl) (fun _ _ h => h)
    · simp only [inv.dstsL, inv.putT, Nat.reduceAdd, List.set_cons_zero, List.set_cons_succ]
      have h6 : (vs 6) = .int .i64 (k : Int) := hD 6 (by kernel_rfl)
      rw [h6]
      go_simp
      refine (lettersOf_is k hk W).mono ?_; rintro e W2 ⟨rfl, b2⟩
      exact hK _ _ _ (by simp only [inv.dstsL, inv.putT, Nat.reduceAdd, List.set_cons_zero, List.set_cons_succ, h6]; (try rfl)) (hS.trans (b2.mono (by have := hS.size; have := HS1.out; omega))) (rfl) (DLn.kept b2)
    · simp only [inv.dstsL, inv.putT, Nat.reduceAdd, List.set_cons_zero, List.set_cons_succ]
      go_simp
      exact hK _ _ _ (by simp only [inv.dstsL, inv.putT, Nat.reduceAdd, List.set_cons_zero, List.set_cons_succ]; (try rfl)) (hS) (rfl) (fun _ _ h => h)
    · simp only [inv.dstsL, inv.putT, Nat.reduceAdd, List.set_cons_zero, List.set_cons_succ]
      have h8 : (vs 8) = .pointer (some ⟨x, 3, none⟩) := hD 8 (by kernel_rfl)
      obtain ⟨q0, q1, q2, q3, q4⟩ := CP.out W hS
      rw [h8]
      go_simp
      exact hK _ _ _ (by simp only [inv.dstsL, inv.putT, Nat.reduceAdd, List.set_cons_zero, List.set_cons_succ, h8]; (try rfl)) (hS) (rfl) (fun _ _ h => h)
    · simp only [inv.dstsL, inv.putT, Nat.reduceAdd, List.set_cons_zero, List.set_cons_succ]
      have h9 : (vs 9) = .int .i64 (⟨nm, co, k, fr, un⟩ : Pn).fr := hD 9 (by kernel_rfl)
      rw [h9]
      go_simp
      refine (timeText_is fr hfr W (RT.out W hS)).mono ?_; rintro e W2 ⟨rfl, b2⟩
      exact hK _ _ _ (by simp only [inv.dstsL, inv.putT, Nat.reduceAdd, List.set_cons_zero, List.set_cons_succ, h9]; (try rfl)) (hS.trans (b2.mono (by have := hS.size; have := HS1.out; omega))) (rfl) (DLn.kept b2)
    · simp only [inv.dstsL, inv.putT, Nat.reduceAdd, List.set_cons_zero, List.set_cons_succ]
      go_simp
      exact hK _ _ _ (by simp only [inv.dstsL, inv.putT, Nat.reduceAdd, List.set_cons_zero, List.set_cons_succ]; (try rfl)) (hS) (rfl) (fun _ _ h => h)
    · simp only [inv.dstsL, inv.putT, Nat.reduceAdd, List.set_cons_zero, List.set_cons_succ]
      have h11 : (vs 11) = .pointer (some ⟨x, 4, none⟩) := hD 11 (by kernel_rfl)
      obtain ⟨q0, q1, q2, q3, q4⟩ := CP.out W hS
      rw [h11]
      go_simp
      exact hK _ _ _ (by simp only [inv.dstsL, inv.putT, Nat.reduceAdd, List.set_cons_zero, List.set_cons_succ, h11]; (try rfl)) (hS) (rfl) (fun _ _ h => h)
    · simp only [inv.dstsL, inv.putT, Nat.reduceAdd, List.set_cons_zero, List.set_cons_succ]
      have h12 : (vs 12) = .int .i64 (⟨nm, co, k, fr, un⟩ : Pn).un := hD 12 (by kernel_rfl)
      rw [h12]
      go_simp
      refine (timeText_is un hun W (RT.out W hS)).mono ?_; rintro e W2 ⟨rfl, b2⟩
      exact hK _ _ _ (by simp only [inv.dstsL, inv.putT, Nat.reduceAdd, List.set_cons_zero, List.set_cons_succ, h12]; (try rfl)) (hS.trans (b2.mono (by have := hS.size; have := HS1.out; omega))) (rfl) (DLn.kept b2)
    · simp only [inv.dstsL, inv.putT, Nat.reduceAdd, List.set_cons_zero, List.set_cons_succ]
      have h1 : (vs 1) = .string (⟨nm, co, k, fr, un⟩ : Pn).nm := hD 1 (by kernel_rfl)
      have h4 : (vs 4) = .string (bs (Lib.itoa (⟨nm, co, k, fr, un⟩ : Pn).co)) := hD 4 (by kernel_rfl)
      have h7 : (vs 7) = .string (bs (letters k)) := hD 7 (by kernel_rfl)
      have h10 : (vs 10) = .string (bs (timeText (⟨nm, co, k, fr, un⟩ : Pn).fr)) := hD 10 (by kernel_rfl)
      have h13 : (vs 13) = .string (bs (timeText (⟨nm, co, k, fr, un⟩ : Pn).un)) := hD 13 (by kernel_rfl)
      rw [h1, h4, h7, h10, h13]
      have b2 := below_box W (.cells #[.string nm, .string (bs (Lib.itoa co)), .string (bs (letters k)), .string (bs (timeText fr)), .string (bs (timeText un))] 9)
      have hnew := heap_alloc_new W (.cells #[.string nm, .string (bs (Lib.itoa co)), .string (bs (letters k)), .string (bs (timeText fr)), .string (bs (timeText un))] 9)
      go_simp
      exact hK _ _ _ (by simp only [inv.dstsL, inv.putT, Nat.reduceAdd, List.set_cons_zero, List.set_cons_succ, h1, h4, h7, h10, h13]; (try rfl)) (hS.trans (b2.mono (by have := hS.size; have := HS1.out; omega))) (⟨_, rfl, lt_of_block hnew, fun i hi => by rw [(cell_atR hnew i).1]; rcases (show i = 0 ∨ i = 1 ∨ i = 2 ∨ i = 3 ∨ i = 4 by omega) with rfl | rfl | rfl | rfl | rfl <;> first | rfl | (show _ = some (Value.string (bs nm.data.toList)); rw [bs_of]; rfl)⟩) (DLn.kept b2)
    · simp only [inv.dstsL, inv.putT, Nat.reduceAdd, List.set_cons_zero, List.set_cons_succ]
      have h14 : ∃ q, (vs 14) = .slice (some ⟨q, 0, none⟩) 5 5 ∧ q < W.heap.size ∧ ∀ i, i < 5 → W.cell? ⟨q, i, none⟩ = some (.string (bs (valW (⟨nm, co, k, fr, un⟩ : Pn) i))) := hD 14 (by kernel_rfl)
      obtain ⟨q, h14, hq, hc⟩ := h14
      rw [h14]
      go_simp
      exact hK _ _ _ (by simp only [inv.dstsL, inv.putT, Nat.reduceAdd, List.set_cons_zero, List.set_cons_succ, h14]; (try rfl)) (hS) (⟨q, rfl, hq, hc⟩) (fun _ _ h => h)
  case rest =>
    intro vs W done hdone hS hD
    obtain ⟨q, h15, hq, hc⟩ : ∃ q, vs 15 = .slice (some ⟨q, 0, none⟩) 5 5 ∧ q < W.heap.size ∧ ∀ i, i < 5 → W.cell? ⟨q, i, none⟩ = some (.string (bs (valW ⟨nm, co, k, fr, un⟩ i))) := hD 15 (by decide)
    have BL := Lib.hid hS
    simp only [inv.dstsL, inv.putT, Nat.reduceAdd, List.set_cons_zero, List.set_cons_succ]
    rw [h15]
    have HQ := Lib.hid hq
    have HC := Lib.hid hc
    generalize vs 0 = y0, vs 1 = y1, vs 2 = y2, vs 3 = y3, vs 4 = y4, vs 5 = y5, vs 6 = y6, vs 7 = y7, vs 8 = y8, vs 9 = y9, vs 10 = y10, vs 11 = y11, vs 12 = y12, vs 13 = y13, vs 14 = y14 at *
    clear hD hdone hS h15 hq hc
    have hsz : x + 1 ≤ W.heap.size := by have := BL.out.size; have := HS1.out; omega
    have k0 := (RT.out W BL.out).kws 0 (by decide)
    have k1 := (RT.out W BL.out).kws 1 (by decide)
    have k2 := (RT.out W BL.out).kws 2 (by decide)
    have k3 := (RT.out W BL.out).kws 3 (by decide)
    have k4 := (RT.out W BL.out).kws 4 (by decide)
    go_wp2_with fail
    clear k0 k1 k2 k3 k4
    obtain ⟨i0, hi, hz0, hz1, hz2⟩ := info_parts info9
    go_loopw [23, 4] (fun iv wv wr => ∃ i : Nat, i ≤ 5 ∧ iv = .int .i64 i ∧ Hid (StrsAt wr W.heap.size wv ((pnW ⟨nm, co, k, fr, un⟩).take (2 * i))) ∧ Hid (Below W.heap.size W wr)) (fun iv _ _ => 5 - (intOf iv).toNat)
    case atStart => exact ⟨0, by decide, rfl, StrsAt.nil _ _, Below.refl _ _⟩
    case round =>
      obtain ⟨i, hi5, rfl, ST, BW⟩ := hrel
      by_cases hlt : i < 5
      · have hii : (i : Int) < 5 := by omega
        obtain ⟨A, hA⟩ : ∃ A : Array Value, A = #[.string (bs (kwd 0)), .string (bs (kwd 1)), .string (bs (kwd 2)), .string (bs (kwd 3)), .string (bs (kwd 4))] := ⟨_, rfl⟩
        have hIx : ∀ w, (Instr.index 81 (.agg A) (.int .i64 i)).run Tryz.prog w = .ok (.string (bs (kwd i))) w := by
          rw [hA]
          rcases (show i = 0 ∨ i = 1 ∨ i = 2 ∨ i = 3 ∨ i = 4 by omega) with rfl | rfl | rfl | rfl | rfl <;> first | exact fun w => rfl | (intro w; go_simp; done) | (intro w; go_wp2; done)
        have hAi : A[i]? = some (.string (bs (kwd i))) := by
          rw [hA]
          rcases (show i = 0 ∨ i = 1 ∨ i = 2 ∨ i = 3 ∨ i = 4 by omega) with rfl | rfl | rfl | rfl | rfl <;> rfl
        have c0 : wr.cell? ⟨q, i, none⟩ = some (.string (bs (valW ⟨nm, co, k, fr, un⟩ i))) := by rw [BW.out.cell (p := ⟨q, i, none⟩) HQ.out]; exact HC.out i hlt
        have hlen : ((pnW ⟨nm, co, k, fr, un⟩).take (2 * i)).length = 2 * i := by rw [List.length_take]; show min (2 * i) 10 = _; omega
        have hown : wr.ownsRow W.heap.size 9 1 u4 (2 * i) (((pnW ⟨nm, co, k, fr, un⟩).take (2 * i)).map fun l => .string (bs l)) := by
          have h := ST.out
          unfold StrsAt at h
          rw [hlen] at h; exact h
        clear ST
        have B0 : Hid (Below W.heap.size W (wr.alloc (.cells #[.string (bs (kwd i)), .string (bs (valW ⟨nm, co, k, fr, un⟩ i))] 9))) := BW.out.alloc BW.out.size _
        have hws0 := BW.out.size
        rw [← hA]
        clear hA
        go_wp2_with (at_builtin; refine wpList_append_own _ rfl (.tmp 27) (.tmp 33) 39 rfl W.heap.size 9 i0 (.string ByteArray.empty) 1 16 Tryz.underlying39 hi hz0 hz1 hz2 rfl (by decide) u4 (2 * i) _ rfl (World.ownsRow.alloc hown _) ⟨wr.heap.size, 0, none⟩ 2 2 [.string (bs (kwd i)), .string (bs (valW ⟨nm, co, k, fr, un⟩ i))] rfl rfl ?qc1 ?qc2 ?qc3 ?qc4 ?qc5 ?_)
        case qc1 =>
          intro j u hu
          rw [Go.WideShapes.add_plain, Nat.zero_add]
          exact (cell_atR (heap_alloc_new wr _) j).1.trans (by simpa using hu)
        case qc2 => intro u hu; simp at hu; rcases hu with rfl | rfl <;> rfl
        case qc3 => unfold maxLen; omega
        case qc4 => omega
        case qc5 => simp; omega
        intro v' w' hown' hgrow hnil'
        have BN := Lib.hid (B0.out.grown hgrow (by simp; omega) (fun k hk => (World.ownsRow.lt hown k hk).1))
        have SN : Hid (StrsAt w' W.heap.size v' ((pnW ⟨nm, co, k, fr, un⟩).take (2 * (i + 1)))) := by
          refine Lib.hid ?_
          rw [pnW_take _ i hlt]
          exact StrsAt.push_many (by rw [hlen, List.map_take]; exact hown')
        clear hown hown' hgrow hnil' c0 hAi B0 BW hws0
        go_wp2
        go_roundw
        case rel => exact ⟨i + 1, by omega, by go_num, SN, BN⟩
        case measure => simp [intOf]; omega
      · obtain rfl : i = 5 := by omega
        have hT : (pnW ⟨nm, co, k, fr, un⟩).take (2 * 5) = pnW ⟨nm, co, k, fr, un⟩ := List.take_of_length_le (by show 10 ≤ 10; decide)
        have ST2 := ST.out
        rw [hT] at ST2
        have JN := Lib.hid (join_any ST2 (by have := HWS.out; omega))
        clear ST2 hT
        go_wp2_with fail
        refine JN.out.mono ?_; rintro e w9 ⟨rfl, b9⟩
        have B9 := Lib.hid (BX.out.trans ((BL.out.trans ((BW.out.trans (b9.mono BW.out.size)).mono hsz)).mono (by rw [hx]; omega)))
        clear b9
        go_wp2
        go_ret
        exact ⟨rfl, B9.out⟩
end Go.Proofs.YthdjpmiohfaphaaGreatDoor.reg

/- The walks of layer 5's program: Print. Condition: the tables hold what their texts lay. -/
namespace Go.Proofs.YthdjpmiohfaphaaGreatDoor.reg
open Go.RowKit lex aggs kit net strs cal

theorem printP_snoc (L : List Pn) (p : Pn) : printP (L ++ [p]) = printP L ++ (Lib.join (pnW p) [32] ++ [10]) := by
  unfold printP
  rw [List.map_append, List.map_append, List.map_cons, List.map_nil, List.map_cons, List.map_nil, textOf_snoc]
theorem printP_line {L : List Pn} {p : Pn} {t ln : ByteArray} (h : t = bs (printP L)) (k : bs (Lib.join (pnW p) [32] ++ [10]) = ln) : t ++ ln = bs (printP (L ++ [p])) := by
  rw [h, ← k, printP_snoc, bs_append]
set_option maxRecDepth 100000 in
set_option maxHeartbeats 4000000 in
theorem print_good (a : Option Addr) (N c : Nat) (ps : List Pn) (w : World) (H : RTabs w) (h : RegIn w a N c ps) (hok : Ok ps) :
    Calls Tryz.prog 22 #[.agg #[.slice a N c]] w fun e w' => e = .returned (.tuple #[.string (bs (printP ps)), .int .i64 0]) ∧ Below w.heap.size w w' := by
  have bx := below_box w (.cells #[.slice a N c] 25)
  have NT := Lib.hid (OneAt.new w (.slice a N c) 25)
  have HN := Lib.hid (fun wr (bel : Below w.heap.size w wr) => h.below bel)
  have HH := Lib.hid (fun wr (bel : Below w.heap.size w wr) => H.below bel)
  have CK := Lib.hid (check_is a N c ps 0 _ (h.below bx) (H.below bx).ct.tabs.cls (SkI.of_ok hok) (chkP_zero.2 hok))
  have hN := hok.len
  rw [h.len] at hN
  have LN := Lib.hid h.len
  have AL := Lib.hid hok.all
  have BX := Lib.hid bx
  clear h H hok bx
  go_enter Tryz.func22, Tryz.ntmps22
  go_wp2_with fail
  refine CK.out.mono ?_; rintro e w1 ⟨rfl, b1⟩
  have B1 : Hid (Below (w.heap.size + 1) (w.alloc (.cells #[.slice a N c] 25)) w1) := by show Below _ _ _; simpa using b1
  clear b1
  obtain ⟨q1, q2⟩ := NT.out.below B1.out (Nat.lt_succ_self _)
  go_wp2_with fail
  go_loopw [5, 16] (fun tv iv wr => ∃ (j : Nat) (t : ByteArray), j ≤ N ∧ iv = .int .i64 j ∧ tv = .string t ∧ t.size ≤ 411 * j ∧ Hid (t = bs (printP (ps.take j))) ∧ Hid (Below (w.heap.size + 1) (w.alloc (.cells #[.slice a N c] 25)) wr)) (fun _ i _ => N - (intOf i).toNat)
  case atStart => exact ⟨0, _, Nat.zero_le _, rfl, rfl, by simp [ByteArray.size], rfl, B1⟩
  case round =>
    clear q1 q2 B1
    obtain ⟨j, t, hj, rfl, rfl, htz, ht, bel⟩ := hrel
    obtain ⟨q1, q2⟩ := NT.out.below bel.out (Nat.lt_succ_self _)
    have BL := Lib.hid (BX.out.trans (bel.out.mono (by omega)))
    by_cases hjn : j < N
    · have hjl : j < ps.length := by rw [LN.out]; exact hjn
      obtain ⟨g, o, rfl, hg, hcs⟩ := (HN.out _ BL.out).rin.some (by omega)
      obtain ⟨c0, c1, c2, c3, c4⟩ := cells_pn hcs j hjl
      have he := AL.out _ (List.getElem_mem hjl)
      have hln : (bs (Lib.join (pnW ps[j]) [32] ++ [10])).size ≤ 411 := by
        have := pn_line he
        rw [bs_size, List.length_append]; simp; omega
      have hnx := Lib.hid (fun ln (e : bs (Lib.join (pnW ps[j]) [32] ++ [10]) = ln) => (show t ++ ln = bs (printP (ps.take (j + 1))) from by
        rw [List.take_succ_eq_append_getElem hjl]; exact printP_line ht.out e))
      have KL : ∀ o', Hid (Calls Tryz.prog 35 #[pnV ps[j]] (wr.alloc o') _) := fun o' => lineOf_is ps[j] he (wr.alloc o') ((HH.out _ BL.out).below (below_box _ _))
      have JN : bs (Lib.join (pnW ps[j]) [32]) ++ ⟨#[10]⟩ = bs (Lib.join (pnW ps[j]) [32] ++ [10]) := bs_push _ _
      have hl0 : (bs (Lib.join (pnW ps[j]) [32])).size ≤ 410 := by have := pn_line he; rw [bs_size]; exact this
      obtain ⟨l0, hl0e⟩ : ∃ z, bs (Lib.join (pnW ps[j]) [32]) = z := ⟨_, rfl⟩
      obtain ⟨ln, hle⟩ : ∃ z, bs (Lib.join (pnW ps[j]) [32] ++ [10]) = z := ⟨_, rfl⟩
      rw [hle] at hln JN
      rw [hl0e] at KL JN hl0
      have HX := Lib.hid (hnx.out ln hle)
      generalize ps[j] = x at *
      obtain ⟨nm, co, sk, fr, un⟩ := x
      unfold pnV at KL
      dsimp only at c0 c1 c2 c3 c4 KL
      clear hle hl0e hnx ht he hcs hg hjl
      go_wp2_with fail
      refine (KL _).out.mono ?_; rintro e w2 ⟨rfl, b2⟩
      have B2 : Hid (Below (w.heap.size + 1) _ w2) := (bel.out.alloc (by have := bel.out.size; simpa using this) _).trans (b2.mono (by have := bel.out.size; simp at this ⊢; omega))
      clear b2
      go_wp2
      go_roundw
      case rel => exact ⟨j + 1, _, by omega, by go_num, rfl, by rw [ByteArray.size_append]; omega, HX, B2⟩
      case measure => simp [intOf]; omega
    · obtain rfl : N = j := by omega
      have HT : Hid (t = bs (printP ps)) := by
        show _ = _
        rw [ht.out, ← LN.out, List.take_length]
      clear ht
      go_wp2
      go_ret2
      exact ⟨by rw [← HT.out]; rfl, BL.out⟩
set_option maxRecDepth 100000 in
set_option maxHeartbeats 1000000 in
theorem print_bad (a : Option Addr) (N c : Nat) (ps : List Pn) (r : Int) (w : World) (H : RTabs w) (h : RegIn w a N c ps) (hw : SkI ps) (hc : chkP ps = r) (hr : r ≠ 0) :
    Calls Tryz.prog 22 #[.agg #[.slice a N c]] w fun e w' => e = .returned (.tuple #[.string (bs []), .int .i64 r]) ∧ Below w.heap.size w w' := by
  have bx := below_box w (.cells #[.slice a N c] 25)
  have CK := Lib.hid (check_is a N c ps r _ (h.below bx) (H.below bx).ct.tabs.cls hw hc)
  have T : (r != 0) = true := bne_iff_ne.2 hr
  have BX := Lib.hid bx
  clear h H bx hr hc hw
  go_enter Tryz.func22, Tryz.ntmps22
  go_wp2_with fail
  refine CK.out.mono ?_; rintro e w1 ⟨rfl, b1⟩
  have B1 : Hid (Below w.heap.size w w1) := BX.out.trans (b1.mono BX.out.size)
  clear b1
  go_wp2
  go_ret2
  exact ⟨rfl, B1.out⟩
theorem print_is (a : Option Addr) (N c : Nat) (ps : List Pn) (w : World) (H : RTabs w) (h : RegIn w a N c ps) (hw : SkI ps) :
    Calls Tryz.prog 22 #[.agg #[.slice a N c]] w fun e w' => e = .returned (.tuple #[.string (bs (prP ps)), .int .i64 (chkP ps)]) ∧ Below w.heap.size w w' := by
  unfold prP
  by_cases hc : chkP ps = 0
  · rw [if_pos hc, hc]; exact print_good a N c ps w H h (chkP_zero.1 hc)
  · rw [if_neg hc]; exact print_bad a N c ps _ w H h hw rfl hc
end Go.Proofs.YthdjpmiohfaphaaGreatDoor.reg

/- The walks of layer 5's program: the person of a line's words. Condition: the tables hold what their texts lay. -/
namespace Go.Proofs.YthdjpmiohfaphaaGreatDoor.reg
open Go.RowKit lex aggs kit net strs cal

/-- words that can be read -/
def WIn (W : World) (g o : Nat) (ws : List (List UInt8)) : Prop := ∀ i (h : i < ws.length), W.cell? ⟨g, o + i, none⟩ = some (.string (bs ws[i]))
theorem WIn.get {W : World} {g o : Nat} {ws : List (List UInt8)} (h : WIn W g o ws) (i : Nat) (x : List UInt8) (hx : ws[i]? = some x) : W.cell? ⟨g, o + i, none⟩ = some (.string (bs x)) := by
  obtain ⟨hi, rfl⟩ := List.getElem?_eq_some_iff.1 hx
  exact h i hi
theorem WIn.below {W W' : World} {g o B : Nat} {ws : List (List UInt8)} (h : WIn W g o ws) (hb : Below B W W') (hg : g < B) : WIn W' g o ws := fun i hi => by
  rw [hb.cell (p := ⟨g, o + i, none⟩) hg]; exact h i hi
def zP : Pn := ⟨⟨#[]⟩, 0, 0, 0, 0⟩
/-- what the words of a line say -/
def perR (ws : List (List UInt8)) : Pn := if perB ws = true then perV ws else zP
def pcells (p : Pn) : Array Value := #[.string p.nm, .int .i64 p.co, .int .i64 p.sk, .int .i64 p.fr, .int .i64 p.un]
theorem arr5 {W : World} {b T : Nat} {u0 u1 u2 u3 u4 : Value} (h : W.heap[b]? = some (.cells #[u0, u1, u2, u3, u4] T (0, 0))) :
    (W.cell? ⟨b, 0, none⟩ = some u0 ∧ W.cell? ⟨b, 1, none⟩ = some u1 ∧ W.cell? ⟨b, 2, none⟩ = some u2 ∧ W.cell? ⟨b, 3, none⟩ = some u3 ∧ W.cell? ⟨b, 4, none⟩ = some u4) ∧
    W.frozen? ⟨b, 0, none⟩ = false ∧ W.frozen? ⟨b, 1, none⟩ = false ∧ W.frozen? ⟨b, 2, none⟩ = false ∧ W.frozen? ⟨b, 3, none⟩ = false ∧ W.frozen? ⟨b, 4, none⟩ = false :=
  ⟨⟨(cell_atR h 0).1, (cell_atR h 1).1, (cell_atR h 2).1, (cell_atR h 3).1, (cell_atR h 4).1⟩, (cell_atR h 0).2, (cell_atR h 1).2, (cell_atR h 2).2, (cell_atR h 3).2, (cell_atR h 4).2⟩
theorem blk {B : Nat} {w w' : World} (hb : Below B w w') {b : Nat} (hB : b < B) {o : Obj} (h : w.heap[b]? = some o) : w'.heap[b]? = some o := by
  rw [hb.block b hB]; exact h
theorem perB_len {ws : List (List UInt8)} (h : ws.length ≠ 10) : perB ws = false := by
  unfold perB; rw [decide_eq_false h]; rfl
theorem perB_kw {ws : List (List UInt8)} (i : Nat) (hi : i < 5) (h : at_ ws (2 * i) ≠ kwd i) : perB ws = false := by
  unfold perB
  rcases (show i = 0 ∨ i = 1 ∨ i = 2 ∨ i = 3 ∨ i = 4 by omega) with rfl | rfl | rfl | rfl | rfl
  · rw [show decide (at_ ws 0 = wPerson) = false from decide_eq_false h]; simp
  · rw [show decide (at_ ws 2 = wCom) = false from decide_eq_false h]; simp
  · rw [show decide (at_ ws 4 = wSk) = false from decide_eq_false h]; simp
  · rw [show decide (at_ ws 6 = wFrom) = false from decide_eq_false h]; simp
  · rw [show decide (at_ ws 8 = wUntil) = false from decide_eq_false h]; simp
theorem perB_rest {s0 s1 s2 s3 s4 s5 s6 s7 s8 s9 : List UInt8} (h : ∀ k, k < 5 → at_ [s0, s1, s2, s3, s4, s5, s6, s7, s8, s9] (2 * k) = kwd k) :
    perB [s0, s1, s2, s3, s4, s5, s6, s7, s8, s9] = (numB s3 lim && decide (skN s5 < 32) && progB s7 && progB s9) := by
  have h0 : at_ [s0, s1, s2, s3, s4, s5, s6, s7, s8, s9] 0 = wPerson := h 0 (by decide)
  have h1 : at_ [s0, s1, s2, s3, s4, s5, s6, s7, s8, s9] 2 = wCom := h 1 (by decide)
  have h2 : at_ [s0, s1, s2, s3, s4, s5, s6, s7, s8, s9] 4 = wSk := h 2 (by decide)
  have h3 : at_ [s0, s1, s2, s3, s4, s5, s6, s7, s8, s9] 6 = wFrom := h 3 (by decide)
  have h4 : at_ [s0, s1, s2, s3, s4, s5, s6, s7, s8, s9] 8 = wUntil := h 4 (by decide)
  unfold perB
  rw [h0, h1, h2, h3, h4]
  simp [at_]
theorem set5 {W : World} {b T : Nat} {u0 u1 u2 u3 u4 v0 v1 v2 v3 v4 : Value} (h : W.heap[b]? = some (.cells #[u0, u1, u2, u3, u4] T (0, 0))) :
    ((World.setCell (World.setCell (World.setCell (World.setCell (World.setCell W ⟨b, 0, none⟩ v0) ⟨b, 1, none⟩ v1) ⟨b, 2, none⟩ v2) ⟨b, 3, none⟩ v3) ⟨b, 4, none⟩ v4)).heap[b]? = some (.cells #[v0, v1, v2, v3, v4] T (0, 0)) := by
  have h1 := set_at (i := 4) v4 (set_at (i := 3) v3 (set_at (i := 2) v2 (set_at (i := 1) v1 (set_at (i := 0) v0 h))))
  exact h1
theorem set5_below {W w : World} {b B : Nat} {v0 v1 v2 v3 v4 : Value} (h : Below B w W) (hb : B ≤ b) : Below B w ((World.setCell (World.setCell (World.setCell (World.setCell (World.setCell W ⟨b, 0, none⟩ v0) ⟨b, 1, none⟩ v1) ⟨b, 2, none⟩ v2) ⟨b, 3, none⟩ v3) ⟨b, 4, none⟩ v4)) :=
  ((((h.setCell (p := ⟨b, 0, none⟩) hb v0).setCell (p := ⟨b, 1, none⟩) hb v1).setCell (p := ⟨b, 2, none⟩) hb v2).setCell (p := ⟨b, 3, none⟩) hb v3).setCell (p := ⟨b, 4, none⟩) hb v4
set_option maxRecDepth 100000 in
set_option maxHeartbeats 4000000 in
theorem personOf_is (ws : List (List UInt8)) (g c : Nat) (w : World) (H : RTabs w) (hw : WIn w g 0 ws) (hg : g < w.heap.size) (hc : ws.length ≤ c) (hl : ∀ x ∈ ws, x.length < 4294967281) :
    Calls Tryz.prog 58 #[.slice (some ⟨g, 0, none⟩) ws.length c] w fun e w' => e = .returned (.tuple #[pnV (perR ws), .bool (perB ws)]) ∧ Below w.heap.size w w' := by
  obtain ⟨n, hn⟩ : ∃ n, ws.length = n := ⟨_, rfl⟩
  have bx := below_box w (.cells (pcells zP) 27)
  have hx := heap_alloc_new w (.cells (pcells zP) 27)
  obtain ⟨W0, hW0⟩ : ∃ W, w.alloc (.cells (pcells zP) 27) = W := ⟨_, rfl⟩
  obtain ⟨x, hxw⟩ : ∃ x, w.heap.size = x := ⟨_, rfl⟩
  have hs0 : W0.heap.size = x + 1 := by rw [← hW0, ← hxw]; simp
  rw [hxw] at hx hg
  rw [hW0] at hx bx
  have BX := Lib.hid bx
  have HX := Lib.hid hx
  have HS0 := Lib.hid hs0
  have HH : Hid (∀ W, Below (x + 1) W0 W → RTabs W) := fun W b => H.below (by have := BX.out.trans (b.mono (by rw [hxw]; omega)); exact this)
  have HW : Hid (∀ W, Below (x + 1) W0 W → WIn W g 0 ws) := fun W b => (hw.below BX.out (by rw [hxw]; exact hg)).below b (by omega)
  unfold pcells zP at hW0 hx
  dsimp only at hW0 hx
  by_cases h10 : n = 10
  · subst h10
    obtain ⟨s0, s1, s2, s3, s4, s5, s6, s7, s8, s9, rfl⟩ : ∃ s0 s1 s2 s3 s4 s5 s6 s7 s8 s9, ws = [s0, s1, s2, s3, s4, s5, s6, s7, s8, s9] := by
      match ws, hn with
      | [s0, s1, s2, s3, s4, s5, s6, s7, s8, s9], _ => exact ⟨_, _, _, _, _, _, _, _, _, _, rfl⟩
    have z3 : s3.length < 4294967281 := hl s3 (by simp)
    have z7 : s7.length < 4294967281 := hl s7 (by simp)
    have z9 : s9.length < 4294967281 := hl s9 (by simp)
    obtain ⟨b3, hb3⟩ : ∃ b, numB s3 lim = b := ⟨_, rfl⟩
    obtain ⟨n3, hn3⟩ : ∃ b, numV s3 lim = b := ⟨_, rfl⟩
    obtain ⟨b5, hb5⟩ : ∃ b, decide (skN s5 < 32) = b := ⟨_, rfl⟩
    obtain ⟨n5, hn5⟩ : ∃ b, (if skN s5 < 32 then (skN s5 : Int) else 0) = b := ⟨_, rfl⟩
    obtain ⟨b7, hb7⟩ : ∃ b, progB s7 = b := ⟨_, rfl⟩
    obtain ⟨b9, hb9⟩ : ∃ b, progB s9 = b := ⟨_, rfl⟩
    obtain ⟨n7, hn7⟩ : ∃ b, paV s7 = b := ⟨_, rfl⟩
    obtain ⟨n9, hn9⟩ : ∃ b, paV s9 = b := ⟨_, rfl⟩
    have N3 := Lib.hid (fun W (b : Below (x + 1) W0 W) => number_at (bs s3) lim n3 b3 W (HH.out W b).ct.tabs.cls (by rw [bs_size]; unfold maxLen; omega) (by decide) (by decide) (by rw [bs_data]; exact hn3) (by rw [bs_data]; exact hb3))
    unfold lim at N3
    have N5 := Lib.hid (fun W => skillsOf_is s5 n5 b5 hb5 hn5 W)
    obtain ⟨x7, hx7⟩ : ∃ b, (if b7 = true then (0 : Int) else 2) = b := ⟨_, rfl⟩
    have HE7 : Hid ((b7 = true → x7 = 0) ∧ (b7 = false → x7 = 2)) := ⟨fun e => by rw [← hx7, if_pos e], fun e => by rw [← hx7, if_neg (by rw [e]; decide)]⟩
    have N7 := Lib.hid (fun W (b : Below (x + 1) W0 W) => parse_at (bs s7) s7 rfl n7 x7 hn7 (by unfold paE; rw [hb7]; exact hx7) z7 W (HH.out W b).ct)
    obtain ⟨x9, hx9⟩ : ∃ b, (if b9 = true then (0 : Int) else 2) = b := ⟨_, rfl⟩
    have HE9 : Hid ((b9 = true → x9 = 0) ∧ (b9 = false → x9 = 2)) := ⟨fun e => by rw [← hx9, if_pos e], fun e => by rw [← hx9, if_neg (by rw [e]; decide)]⟩
    have N9 := Lib.hid (fun W (b : Below (x + 1) W0 W) => parse_at (bs s9) s9 rfl n9 x9 hn9 (by unfold paE; rw [hb9]; exact hx9) z9 W (HH.out W b).ct)
    have HN5 : Hid (b5 = true → n5 = (skN s5 : Int)) := fun e => by rw [← hn5, if_pos (of_decide_eq_true (by rw [hb5]; exact e))]
    have HRS : Hid ((∀ k, k < 5 → at_ [s0, s1, s2, s3, s4, s5, s6, s7, s8, s9] (2 * k) = kwd k) → perB [s0, s1, s2, s3, s4, s5, s6, s7, s8, s9] = (b3 && b5 && b7 && b9)) := fun h => by rw [perB_rest h, hb3, hb5, hb7, hb9]
    have HV : Hid (perV [s0, s1, s2, s3, s4, s5, s6, s7, s8, s9] = ⟨bs s1, n3, (skN s5 : Int), n7, n9⟩) := by rw [← hn3, ← hn7, ← hn9]; rfl
    have HNO : Hid (∀ i, i < 5 → at_ [s0, s1, s2, s3, s4, s5, s6, s7, s8, s9] (2 * i) ≠ kwd i → perB [s0, s1, s2, s3, s4, s5, s6, s7, s8, s9] = false ∧ perR [s0, s1, s2, s3, s4, s5, s6, s7, s8, s9] = zP) := fun i hi e => ⟨perB_kw i hi e, by unfold perR; rw [if_neg (by rw [perB_kw i hi e]; decide)]⟩
    obtain ⟨ANS, hans⟩ : ∃ A, pnV (perR [s0, s1, s2, s3, s4, s5, s6, s7, s8, s9]) = A := ⟨_, rfl⟩
    obtain ⟨ANB, hanb⟩ : ∃ A, perB [s0, s1, s2, s3, s4, s5, s6, s7, s8, s9] = A := ⟨_, rfl⟩
    have HAN := Lib.hid hans
    have HAB := Lib.hid hanb
    rw [hans, hanb, hn]
    clear hx7 hx9 hans hanb hb3 hn3 hb5 hn5 hb7 hn7 hb9 hn9 hx bx H hw hs0 hn hl hc z3 z7 z9
    obtain ⟨k0, k1, k2, k3, k4⟩ : W0.cell? ⟨0, 0, none⟩ = some (.string (bs (kwd 0))) ∧ W0.cell? ⟨0, 1, none⟩ = some (.string (bs (kwd 1))) ∧ W0.cell? ⟨0, 2, none⟩ = some (.string (bs (kwd 2))) ∧ W0.cell? ⟨0, 3, none⟩ = some (.string (bs (kwd 3))) ∧ W0.cell? ⟨0, 4, none⟩ = some (.string (bs (kwd 4))) := by
      have K := (HH.out W0 (Below.refl _ _)).kws
      exact ⟨K 0 (by decide), K 1 (by decide), K 2 (by decide), K 3 (by decide), K 4 (by decide)⟩
    go_enter Tryz.func58, Tryz.ntmps58
    go_wp2_with fail
    (try rw [hW0])
    (try rw [hxw])
    clear hW0 k0 k1 k2 k3 k4
    go_loopw [19] (fun iv wr => ∃ i : Nat, i ≤ 5 ∧ iv = .int .i64 i ∧ Hid (Below (x + 1) W0 wr) ∧ Hid (∀ k, k < i → at_ [s0, s1, s2, s3, s4, s5, s6, s7, s8, s9] (2 * k) = kwd k)) (fun iv _ => 5 - (intOf iv).toNat)
    case atStart => exact ⟨0, by decide, rfl, Below.refl _ _, fun k hk => by cases hk⟩
    case round =>
      obtain ⟨i, hi5, rfl, BL, KW⟩ := hrel
      by_cases hlt : i < 5
      · have hii : (i : Int) < 5 := by omega
        obtain ⟨A, hA⟩ : ∃ A : Array Value, A = #[.string (bs (kwd 0)), .string (bs (kwd 1)), .string (bs (kwd 2)), .string (bs (kwd 3)), .string (bs (kwd 4))] := ⟨_, rfl⟩
        have hIx : ∀ w, (Instr.index 81 (.agg A) (.int .i64 i)).run Tryz.prog w = .ok (.string (bs (kwd i))) w := by
          rw [hA]
          rcases (show i = 0 ∨ i = 1 ∨ i = 2 ∨ i = 3 ∨ i = 4 by omega) with rfl | rfl | rfl | rfl | rfl <;> exact fun w => rfl
        have cw : wr.cell? ⟨g, 2 * i, none⟩ = some (.string (bs (at_ [s0, s1, s2, s3, s4, s5, s6, s7, s8, s9] (2 * i)))) := by
          have := (HW.out wr BL.out).get (2 * i) (at_ [s0, s1, s2, s3, s4, s5, s6, s7, s8, s9] (2 * i)) (by rcases (show i = 0 ∨ i = 1 ∨ i = 2 ∨ i = 3 ∨ i = 4 by omega) with rfl | rfl | rfl | rfl | rfl <;> rfl)
          rw [Nat.zero_add] at this; exact this
        obtain ⟨y, hy⟩ : ∃ y, bs (at_ [s0, s1, s2, s3, s4, s5, s6, s7, s8, s9] (2 * i)) = y := ⟨_, rfl⟩
        obtain ⟨z, hz⟩ : ∃ y, bs (kwd i) = y := ⟨_, rfl⟩
        rw [hy] at cw
        rw [← hA]
        clear hA
        rw [hz] at hIx
        by_cases e : at_ [s0, s1, s2, s3, s4, s5, s6, s7, s8, s9] (2 * i) = kwd i
        · have TE : (y.toList == z.toList) = true := by rw [str_eq, ← hy, ← hz, e]; exact decide_eq_true rfl
          have hnext : Hid (∀ k, k < i + 1 → at_ [s0, s1, s2, s3, s4, s5, s6, s7, s8, s9] (2 * k) = kwd k) := fun k hk => by
            by_cases e1 : k = i
            · subst e1; exact e
            · exact KW.out k (by omega)
          clear e hy hz KW
          go_wp2
          go_roundw
          case rel => exact ⟨i + 1, by omega, by go_num, BL, hnext⟩
          case measure => simp [intOf]; omega
        · have TE : (y.toList == z.toList) = false := by rw [str_eq, ← hy, ← hz]; exact decide_eq_false (fun q => e (bs_inj q))
          obtain ⟨r1, r2⟩ := HNO.out i hlt e
          have r3 := HAB.out
          have r4 := HAN.out
          rw [r1] at r3
          rw [r2] at r4
          subst r3 r4
          obtain ⟨⟨q0, q1, q2, q3, q4⟩, f0, f1, f2, f3, f4⟩ := arr5 (T := 27) (blk BL.out (Nat.lt_succ_self x) HX.out)
          clear e hy hz r1 r2
          go_wp2
          generalize h9 : (World.setCell (World.setCell (World.setCell (World.setCell (World.setCell wr ⟨x, 0, none⟩ (.string ⟨#[]⟩)) ⟨x, 1, none⟩ (.int .i64 0)) ⟨x, 2, none⟩ (.int .i64 0)) ⟨x, 3, none⟩ (.int .i64 0)) ⟨x, 4, none⟩ (.int .i64 0)) = W9
          have X9 := set5 (v0 := (.string ⟨#[]⟩)) (v1 := (.int .i64 0)) (v2 := (.int .i64 0)) (v3 := (.int .i64 0)) (v4 := (.int .i64 0)) (blk BL.out (Nat.lt_succ_self x) HX.out)
          have bz := set5_below (b := x) (B := x) (v0 := (.string ⟨#[]⟩)) (v1 := (.int .i64 0)) (v2 := (.int .i64 0)) (v3 := (.int .i64 0)) (v4 := (.int .i64 0)) (BX.out.trans (BL.out.mono (by rw [hxw]; omega)) |> fun h => (by rw [hxw] at h; exact h)) (Nat.le_refl _)
          rw [h9] at X9 bz
          clear h9
          have BZ := Lib.hid bz
          obtain ⟨⟨q0, q1, q2, q3, q4⟩, -⟩ := arr5 X9
          clear X9 bz
          exact bodyPost_ret (v := .tuple #[pnV (zP), .bool false]) (by simp [results, Tryz.results58, go_sem, q0, q1, q2, q3, q4, pnV, zP]) rfl ⟨rfl, by first | exact BZ.out | (rw [hxw]; exact BZ.out)⟩
      · obtain rfl : i = 5 := by omega
        have RS := HRS.out KW.out
        clear HNO KW HRS
        have WR := HW.out wr BL.out
        have c3 := WR.get 3 s3 rfl
        have c5 := WR.get 5 s5 rfl
        have c7 := WR.get 7 s7 rfl
        have c9 := WR.get 9 s9 rfl
        clear WR c5 c7 c9
        have hs1 := HS0.out
        go_wp2_with fail
        refine (N3.out wr BL.out).mono ?_; rintro e w3 ⟨rfl, rfl⟩
        have c5 := (HW.out _ BL.out).get 5 s5 rfl
        clear c3
        go_wp2_with fail
        refine (N5.out _).mono ?_; rintro e w5 ⟨rfl, t5⟩
        have B5 := Lib.hid (BL.out.trans (t5.mono (by have := BL.out.size; omega)))
        have c7 := (HW.out _ B5.out).get 7 s7 rfl
        clear t5 c5
        go_wp2_with fail
        refine (N7.out _ B5.out).mono ?_; rintro e w7 ⟨rfl, t7⟩
        have B7 := Lib.hid (B5.out.trans (t7.mono (by have := B5.out.size; omega)))
        have c9 := (HW.out _ B7.out).get 9 s9 rfl
        clear t7 c7
        go_wp2_with fail
        refine (N9.out _ B7.out).mono ?_; rintro e w9 ⟨rfl, t9⟩
        have B9 := Lib.hid (B7.out.trans (t9.mono (by have := B7.out.size; omega)))
        have c1 := (HW.out _ B9.out).get 1 s1 rfl
        clear t9 c9 hs1
        obtain ⟨⟨q0, q1, q2, q3, q4⟩, f0, f1, f2, f3, f4⟩ := arr5 (T := 27) (blk B9.out (Nat.lt_succ_self x) HX.out)
        have r3 := HAB.out
        have r4 := HAN.out
        unfold perR at r4
        rw [r3] at r4
        rw [RS] at r3
        cases b3 <;> cases b5 <;> cases b7 <;> cases b9
        case true.true.true.true =>
          have h5 := HN5.out rfl
          subst r3
          rw [if_pos (show (true && true && true && true) = true from rfl), HV.out, ← h5] at r4
          subst r4
          clear RS h5
          have e7 := HE7.out
          have e9 := HE9.out
          first | (obtain rfl : x7 = 0 := e7.1 rfl) | (obtain rfl : x7 = 2 := e7.2 rfl)
          first | (obtain rfl : x9 = 0 := e9.1 rfl) | (obtain rfl : x9 = 2 := e9.2 rfl)
          clear e7 e9 HE7 HE9
          go_wp2
          generalize h9 : (World.setCell (World.setCell (World.setCell (World.setCell (World.setCell w9 ⟨x, 0, none⟩ (.string (bs s1))) ⟨x, 1, none⟩ (.int .i64 n3)) ⟨x, 2, none⟩ (.int .i64 n5)) ⟨x, 3, none⟩ (.int .i64 n7)) ⟨x, 4, none⟩ (.int .i64 n9)) = W9
          have X9 := set5 (v0 := (.string (bs s1))) (v1 := (.int .i64 n3)) (v2 := (.int .i64 n5)) (v3 := (.int .i64 n7)) (v4 := (.int .i64 n9)) (blk B9.out (Nat.lt_succ_self x) HX.out)
          have bz := set5_below (b := x) (B := x) (v0 := (.string (bs s1))) (v1 := (.int .i64 n3)) (v2 := (.int .i64 n5)) (v3 := (.int .i64 n7)) (v4 := (.int .i64 n9)) (BX.out.trans (B9.out.mono (by rw [hxw]; omega)) |> fun h => (by rw [hxw] at h; exact h)) (Nat.le_refl _)
          rw [h9] at X9 bz
          clear h9
          have BZ := Lib.hid bz
          obtain ⟨⟨q0, q1, q2, q3, q4⟩, -⟩ := arr5 X9
          clear X9 bz
          exact bodyPost_ret (v := .tuple #[pnV (⟨bs s1, n3, n5, n7, n9⟩), .bool true]) (by simp [results, Tryz.results58, go_sem, q0, q1, q2, q3, q4, pnV]) rfl ⟨rfl, by first | exact BZ.out | (rw [hxw]; exact BZ.out)⟩
        all_goals
          subst r3
          rw [if_neg (by decide)] at r4
          subst r4
          clear RS
          have e7 := HE7.out
          have e9 := HE9.out
          first | (obtain rfl : x7 = 0 := e7.1 rfl) | (obtain rfl : x7 = 2 := e7.2 rfl)
          first | (obtain rfl : x9 = 0 := e9.1 rfl) | (obtain rfl : x9 = 2 := e9.2 rfl)
          clear e7 e9 HE7 HE9
          go_wp2
          generalize h9 : (World.setCell (World.setCell (World.setCell (World.setCell (World.setCell w9 ⟨x, 0, none⟩ (.string ⟨#[]⟩)) ⟨x, 1, none⟩ (.int .i64 0)) ⟨x, 2, none⟩ (.int .i64 0)) ⟨x, 3, none⟩ (.int .i64 0)) ⟨x, 4, none⟩ (.int .i64 0)) = W9
          have X9 := set5 (v0 := (.string ⟨#[]⟩)) (v1 := (.int .i64 0)) (v2 := (.int .i64 0)) (v3 := (.int .i64 0)) (v4 := (.int .i64 0)) (blk B9.out (Nat.lt_succ_self x) HX.out)
          have bz := set5_below (b := x) (B := x) (v0 := (.string ⟨#[]⟩)) (v1 := (.int .i64 0)) (v2 := (.int .i64 0)) (v3 := (.int .i64 0)) (v4 := (.int .i64 0)) (BX.out.trans (B9.out.mono (by rw [hxw]; omega)) |> fun h => (by rw [hxw] at h; exact h)) (Nat.le_refl _)
          rw [h9] at X9 bz
          clear h9
          have BZ := Lib.hid bz
          obtain ⟨⟨q0, q1, q2, q3, q4⟩, -⟩ := arr5 X9
          clear X9 bz
          exact bodyPost_ret (v := .tuple #[pnV (zP), .bool false]) (by simp [results, Tryz.results58, go_sem, q0, q1, q2, q3, q4, pnV, zP]) rfl ⟨rfl, by first | exact BZ.out | (rw [hxw]; exact BZ.out)⟩
  · have hB := perB_len (by rw [hn]; exact h10)
    have hR : perR ws = zP := by unfold perR; rw [if_neg (by rw [hB]; decide)]
    rw [hn, hB, hR]
    have T : ((n : Int) != 10) = true := by rw [bne_iff_ne]; omega
    obtain ⟨⟨q0, q1, q2, q3, q4⟩, f0, f1, f2, f3, f4⟩ := arr5 hx
    clear hB hR hx bx H hw hs0 hn hl hc hg
    go_enter Tryz.func58, Tryz.ntmps58
    go_wp2_with fail
    (try rw [hW0])
    (try rw [hxw])
    clear hW0
    go_wp2
    generalize h9 : (World.setCell (World.setCell (World.setCell (World.setCell (World.setCell W0 ⟨x, 0, none⟩ (.string ⟨#[]⟩)) ⟨x, 1, none⟩ (.int .i64 0)) ⟨x, 2, none⟩ (.int .i64 0)) ⟨x, 3, none⟩ (.int .i64 0)) ⟨x, 4, none⟩ (.int .i64 0)) = W9
    have X9 := set5 (v0 := (.string ⟨#[]⟩)) (v1 := (.int .i64 0)) (v2 := (.int .i64 0)) (v3 := (.int .i64 0)) (v4 := (.int .i64 0)) (HX.out)
    have bz := set5_below (b := x) (B := x) (v0 := (.string ⟨#[]⟩)) (v1 := (.int .i64 0)) (v2 := (.int .i64 0)) (v3 := (.int .i64 0)) (v4 := (.int .i64 0)) (BX.out.trans ((Below.refl (x + 1) W0).mono (by rw [hxw]; omega)) |> fun h => (by rw [hxw] at h; exact h)) (Nat.le_refl _)
    rw [h9] at X9 bz
    clear h9
    have BZ := Lib.hid bz
    obtain ⟨⟨q0, q1, q2, q3, q4⟩, -⟩ := arr5 X9
    clear X9 bz
    exact bodyPost_ret (v := .tuple #[pnV (zP), .bool false]) (by simp [results, Tryz.results58, go_sem, q0, q1, q2, q3, q4, pnV, zP]) rfl ⟨rfl, by first | exact BZ.out | (rw [hxw]; exact BZ.out)⟩
end Go.Proofs.YthdjpmiohfaphaaGreatDoor.reg

/- A drawn region by an invariant, fourth form: as the third, and a step is told that what it waits for is done. No program in this text. -/
namespace Go.Proofs.YthdjpmiohfaphaaGreatDoor.inv

def StepOk4 (P : Program) (ops : Array Oper) (Q : Exit → Act → World → Prop) (a : Act) (S : (Nat → Bool) → (Nat → Value) → World → Prop) (D : Nat → Value → World → Prop) (i : Nat) (o : Oper) : Prop :=
  ∀ vs w (done : Nat → Bool), S done vs w → (∀ j, (waits ops i).contains j = true → D j (vs j) w) → (∀ j, (waits ops i).contains j = true → done j = true) → (∀ j, (waits ops j).contains i = true → done j = false) → (∀ j, j < ops.size → done j = false → vs j = held a ops j) → (∀ j, j < ops.size → done j = true → ∀ k, (waits ops j).contains k = true → done k = true) → done i = false → ∀ K : Act → World → Prop,
    (∀ v w' a', (putL (dsts ops) a vs).put o.dst v = a' → S (fun j => if j = i then true else done j) (upd vs i v) w' → D i v w' → (∀ j v', j ≠ i → done j = true → D j v' w → D j v' w') → K a' w') →
    if Region.wanted o (yielded ops (putL (dsts ops) a vs).tmps) = true then Oper.wp P o (putL (dsts ops) a vs) w K Q else K ((putL (dsts ops) a vs).put o.dst undef) w
/-- the rule: S is what holds of the world, by what has been done; D what an operation leaves in its slot. The operations are numbered; is: 0, 1, .. -/
theorem wp_region_inv40 {P : Program} {ops : Array Oper} {Q : Exit → Act → World → Prop} {id : Nat} {a : Act} {w : World} (S : (Nat → Bool) → (Nat → Value) → World → Prop) (D : Nat → Value → World → Prop)
    (hm : P.follows .mixedOrders = true) (hok : okL (dsts ops) = true) (hlow : ((List.range ops.size).all fun i => (waits ops i).all (· < i)) = true) (hS : S (fun _ => false) (held a ops) w.drew) (hs : ∀ i o, ops[i]? = some o → StepOk4 P ops Q a S D i o)
    (hend : ∀ vs w' done, (∀ j, j < ops.size → done j = true) → S done vs w' → (∀ j, j < ops.size → D j (vs j) w') → Q .normal (putL (dsts ops) a vs) w') : (Code.region id ops true).wp P Q a w := by
  have hin : ∀ i o, ops[i]? = some o → (i, o.dst) ∈ dsts ops := fun i o ho => by
    unfold dsts
    rw [List.mem_map]
    exact ⟨i, List.mem_range.2 (by by_cases e : i < ops.size; exact e; rw [Array.getElem?_eq_none (by omega)] at ho; cases ho), by rw [ho]; rfl⟩
  have hget : ∀ (listed : Array Bool) i j, listed.size = ops.size → i < ops.size → (listed.setIfInBounds i true).getD j false = if j = i then true else listed.getD j false := fun listed i j hsz hi => by
    rw [Array.getD_eq_getD_getElem?, Array.getD_eq_getD_getElem?, Array.getElem?_setIfInBounds]
    by_cases e : j = i
    · subst e; rw [if_pos rfl, if_pos (by omega), if_pos rfl]; rfl
    · rw [if_neg (fun h => e h.symm), if_neg e]
  refine wp_region_any hm (inv_any (fun listed a' w' => listed.size = ops.size ∧ (∀ j, j < ops.size → listed.getD j false = true → ∀ k ∈ waits ops j, listed.getD k false = true) ∧ ∃ vs, a' = putL (dsts ops) a vs ∧ S (fun j => listed.getD j false) vs w' ∧ (∀ j, j < ops.size → listed.getD j false = true → D j (vs j) w') ∧ ∀ j, j < ops.size → listed.getD j false = false → vs j = held a ops j) ?_ ?_ _ _ _ _ ?_ ?_)
  · rintro listed a' w' ⟨hsz, hcl, vs, rfl, hS, hD, hH⟩ i hi
    obtain ⟨h1, h2, o, ho, h3⟩ := ready_is hi
    have hst := hs i o ho
    have hno : listed.getD i false = false := by
      rw [Array.getD_eq_getD_getElem?, Array.getElem?_eq_getElem (by omega)] at h2 ⊢
      simpa using h2
    have hbound : ∀ j, listed.getD j false = true → j < ops.size := fun j hj => by
      by_cases e : j < ops.size
      · exact e
      · rw [Array.getD_eq_getD_getElem?, Array.getElem?_eq_none (by omega)] at hj; simp at hj
    refine wpOp_step ho (fun K hK => ?_)
    refine hst vs w' _ hS (fun j hj => ?_) (fun j hj => waits_listed ho h3 (by simpa using hj)) (fun j hj => ?_) hH (fun j hj hl k hk => hcl j hj hl k (by simpa using hk)) hno K (fun v w2 a2 ha hS2 hD2 hk => hK _ _ ⟨by simpa using hsz, fun j hj hl k hk2 => ?_, upd vs i v, ?_, ?_, fun j hj hl => ?_, fun j hj hl => ?_⟩)
    · have hjl := waits_listed ho h3 (by simpa using hj)
      exact hD j (hbound j hjl) hjl
    · cases e : listed.getD j false with
      | false => rfl
      | true =>
        have := hcl j (hbound j e) e i (by simpa using hj)
        rw [hno] at this; cases this
    · rw [hget listed i _ hsz h1] at hl ⊢
      by_cases e : k = i
      · rw [if_pos e]
      · rw [if_neg e]
        by_cases e2 : j = i
        · subst e2; exact waits_listed ho h3 hk2
        · rw [if_neg e2] at hl; exact hcl j hj hl k hk2
    · rw [← ha]; exact putL_upd hok (hin i o ho) a vs v
    · have e : (fun j => (listed.setIfInBounds i true).getD j false) = fun j => if j = i then true else listed.getD j false := funext fun j => hget listed i j hsz h1
      show S (fun j => (listed.setIfInBounds i true).getD j false) (upd vs i v) w2
      rw [e]; exact hS2
    · rw [hget listed i _ hsz h1] at hl
      by_cases e : j = i
      · subst e; rw [show upd vs j v j = v from if_pos rfl]; exact hD2
      · rw [show upd vs i v j = vs j from if_neg e]
        rw [if_neg e] at hl
        exact hk j _ e hl (hD j hj hl)
    · rw [hget listed i _ hsz h1] at hl
      by_cases e : j = i
      · rw [if_pos e] at hl; cases hl
      · rw [if_neg e] at hl
        rw [show upd vs i v j = vs j from if_neg e]
        exact hH j hj hl
  · rintro listed a' w' ⟨hsz, hcl, vs, rfl, hS, hD, hH⟩ hr
    have ha := all_listed hlow hsz hr
    exact hend vs w' _ ha hS (fun j hj => hD j hj (ha j hj))
  · unfold undone
    have := List.length_filter_le (fun i => !(Array.replicate ops.size false).getD i true) (List.range ops.size)
    simpa using this
  · have h0 : ∀ j, (Array.replicate ops.size false).getD j false = false := fun j => by
      rw [Array.getD_eq_getD_getElem?, Array.getElem?_replicate]
      split <;> rfl
    refine ⟨by simp, fun j hj hl => (by rw [h0] at hl; cases hl), held a ops, ?_, ?_, fun j hj hl => (by rw [h0] at hl; cases hl), fun _ _ _ => rfl⟩
    · symm
      refine putL_same a _ _ (fun i t hm => ?_)
      unfold dsts at hm
      rw [List.mem_map] at hm
      obtain ⟨k, _, e⟩ := hm
      injection e with e1 e2
      subst e1
      unfold held; rw [e2]
    · have e : (fun j => (Array.replicate ops.size false).getD j false) = fun _ => false := funext h0
      show S (fun j => (Array.replicate ops.size false).getD j false) (held a ops) w.drew
      rw [e]; exact hS
/-- one operation: the goal of its step -/
def StepL4 (P : Program) (l : List Oper) (Q : Exit → Act → World → Prop) (ts : List Value) (df : List Deferred) (S : (Nat → Bool) → (Nat → Value) → World → Prop) (D : Nat → Value → World → Prop) (i : Nat) (o : Oper) : Prop :=
  ∀ vs w (done : Nat → Bool), S done vs w → (∀ j, (waits l.toArray i).contains j = true → D j (vs j) w) → (∀ j, (waits l.toArray i).contains j = true → done j = true) → (∀ j, (waits l.toArray j).contains i = true → done j = false) → (∀ j, j < l.length → done j = false → vs j = held ⟨ts.toArray, df⟩ l.toArray j) → (∀ j, j < l.length → done j = true → ∀ k, (waits l.toArray j).contains k = true → done k = true) → done i = false → ∀ K : Act → World → Prop,
    (∀ v w' a', (⟨(putT (dstsL 0 l) ts vs).toArray, df⟩ : Act).put o.dst v = a' → S (fun j => if j = i then true else done j) (upd vs i v) w' → D i v w' → (∀ j v', j ≠ i → done j = true → D j v' w → D j v' w') → K a' w') →
    if Region.wanted o (yielded l.toArray (putT (dstsL 0 l) ts vs).toArray) = true then Oper.wp P o ⟨(putT (dstsL 0 l) ts vs).toArray, df⟩ w K Q else K ((⟨(putT (dstsL 0 l) ts vs).toArray, df⟩ : Act).put o.dst undef) w
def StepsL4 (P : Program) (l : List Oper) (Q : Exit → Act → World → Prop) (ts : List Value) (df : List Deferred) (S : (Nat → Bool) → (Nat → Value) → World → Prop) (D : Nat → Value → World → Prop) : Nat → List Oper → Prop
  | _, [] => True
  | i, o :: r => StepL4 P l Q ts df S D i o ∧ StepsL4 P l Q ts df S D (i + 1) r
theorem StepsL4.get {P : Program} {l : List Oper} {Q : Exit → Act → World → Prop} {ts : List Value} {df : List Deferred} {S : (Nat → Bool) → (Nat → Value) → World → Prop} {D : Nat → Value → World → Prop} : ∀ (r : List Oper) (k : Nat), StepsL4 P l Q ts df S D k r → ∀ i o, r[i]? = some o → StepL4 P l Q ts df S D (i + k) o := by
  intro r
  induction r with
  | nil => intro k _ i o h; simp at h
  | cons x r ih =>
    intro k hs i o h
    cases i with
    | zero =>
      obtain rfl : x = o := by simpa using h
      rw [Nat.zero_add]; exact hs.1
    | succ i =>
      have := ih (k + 1) hs.2 i o (by simpa using h)
      rwa [show i + 1 + k = i + (k + 1) by omega]
/-- THE RULE: S is what holds of the world, by what has been done; D what an operation leaves in its slot -/
theorem wp_region_inv4 {P : Program} {l : List Oper} {Q : Exit → Act → World → Prop} {id : Nat} {ts : List Value} {df : List Deferred} {w : World} (S : (Nat → Bool) → (Nat → Value) → World → Prop) (D : Nat → Value → World → Prop)
    (hm : P.follows .mixedOrders = true) (hok : (okL (dstsL 0 l) && ((List.range l.length).all fun i => (waits l.toArray i).all (· < i))) = true) (hS : S (fun _ => false) (held ⟨ts.toArray, df⟩ l.toArray) w.drew) (hs : StepsL4 P l Q ts df S D 0 l)
    (hend : ∀ vs w' done, (∀ j, j < l.length → done j = true) → S done vs w' → (∀ j, j < l.length → D j (vs j) w') → Q .normal ⟨(putT (dstsL 0 l) ts vs).toArray, df⟩ w') : (Code.region id l.toArray true).wp P Q ⟨ts.toArray, df⟩ w := by
  rw [Bool.and_eq_true] at hok
  refine wp_region_inv40 S D hm (by rw [dsts_list]; exact hok.1) (by simpa using hok.2) hS (fun i o ho => ?_) (fun vs w' done h1 h2 h3 => ?_)
  · have := StepsL4.get l 0 hs i o (by simpa using ho)
    intro vs w done h1 h2 hdn h3 h4 h5 h6 K hK
    rw [dsts_list, putL_list] at hK ⊢
    exact this vs w done h1 h2 hdn h3 (fun j hj hd => h4 j (by simpa using hj) hd) (fun j hj hd => h5 j (by simpa using hj) hd) h6 K hK
  · rw [dsts_list, putL_list]
    exact hend vs w' done (fun j hj => h1 j (by simpa using hj)) h2 (fun j hj => h3 j (by simpa using hj))
end Go.Proofs.YthdjpmiohfaphaaGreatDoor.inv

/- The walk of layer 5's program: Add. It computes what the plain facts say. Condition: the table 'classes'; skills are numbers of 64 bits. -/
namespace Go.Proofs.YthdjpmiohfaphaaGreatDoor.reg
open Go.RowKit lex aggs kit net deck

/-- while the copy is made and the person put in: slot 2 is the copy, 5 the person's row, 6 the new list, 7 the new register -/
structure SIns (w1 : World) (x n : Nat) (ps qs : List Pn) (p : Pn) (done : Nat → Bool) (vs : Nat → Value) (W : World) : Prop where
  below : Below (x + 2) w1 W
  size : x + 3 ≤ W.heap.size
  res : done 8 = false → W.heap[x + 2]? = some (.cells #[.slice none 0 0] 25 (0, 0))
  copy : done 2 = true → done 6 = false → AggsAt 27 5 encPn W (x + 3) (vs 2) ps
  row : done 5 = true → done 6 = false → ∃ q, vs 5 = .slice (some ⟨q, 0, none⟩) 1 1 ∧ W.heap[q]? = some (.cells #[.string p.nm, .int .i64 p.co, .int .i64 p.sk, .int .i64 p.fr, .int .i64 p.un] 27 (0, 0)) ∧ x + 3 ≤ q ∧ (done 2 = true → (vs 2).ownBlock ≠ some q)
  ins : done 6 = true → done 8 = false → AggsAt 27 5 encPn W (x + 3) (vs 6) qs
  reg : done 7 = true → vs 7 = .agg #[vs 6]
  dn67 : done 7 = true → done 6 = true
  fin : done 8 = true → ∃ a c, W.heap[x + 2]? = some (.cells #[.slice a n c] 25 (0, 0)) ∧ RegIn W a n c qs
theorem SIns.mark {w1 : World} {x n : Nat} {ps qs : List Pn} {p : Pn} {done : Nat → Bool} {vs : Nat → Value} {W : World} (h : SIns w1 x n ps qs p done vs W) (i : Nat) (v : Value) (h2 : i ≠ 2) (h5 : i ≠ 5) (h6 : i ≠ 6) (h7 : i ≠ 7) (h8 : i ≠ 8) : SIns w1 x n ps qs p (fun j => if j = i then true else done j) (inv.upd vs i v) W where
  below := h.below
  size := h.size
  res := fun e => h.res (by simpa [h8.symm] using e)
  copy := fun e e' => by rw [show inv.upd vs i v 2 = vs 2 from if_neg h2.symm]; exact h.copy (by simpa [h2.symm] using e) (by simpa [h6.symm] using e')
  row := fun e e' => by
    obtain ⟨q, q1, q2, q3, q4⟩ := h.row (by simpa [h5.symm] using e) (by simpa [h6.symm] using e')
    exact ⟨q, by rw [show inv.upd vs i v 5 = vs 5 from if_neg h5.symm]; exact q1, q2, q3, fun e2 => by rw [show inv.upd vs i v 2 = vs 2 from if_neg h2.symm]; exact q4 (by simpa [h2.symm] using e2)⟩
  ins := fun e e' => by rw [show inv.upd vs i v 6 = vs 6 from if_neg h6.symm]; exact h.ins (by simpa [h6.symm] using e) (by simpa [h8.symm] using e')
  dn67 := fun e => by simpa [h6.symm] using h.dn67 (by simpa [h7.symm] using e)
  reg := fun e => by rw [show inv.upd vs i v 7 = vs 7 from if_neg h7.symm, show inv.upd vs i v 6 = vs 6 from if_neg h6.symm]; exact h.reg (by simpa [h7.symm] using e)
  fin := fun e => h.fin (by simpa [h8.symm] using e)
theorem aggs_own {base : Nat} {v : Value} {ps : List Pn} {W : World} (h : AggsAt 27 5 encPn W base v ps) : ∀ k, v.ownBlock = some k → base ≤ k ∧ k < W.heap.size := World.ownsRow.lt h
/-- the copy is made -/
theorem SIns.copied {w1 : World} {x n : Nat} {ps qs : List Pn} {p : Pn} {done : Nat → Bool} {vs : Nat → Value} {W W' : World} {v : Value} (h : SIns w1 x n ps qs p done vs W) (d6 : done 6 = false) (d8 : done 8 = false) (d7 : done 7 = false) (hb : Below W.heap.size W W') (hv : AggsAt 27 5 encPn W' W.heap.size v ps) :
    SIns w1 x n ps qs p (fun j => if j = 2 then true else done j) (inv.upd vs 2 v) W' where
  below := h.below.trans (hb.mono (by have := h.size; omega))
  size := Nat.le_trans h.size hb.size
  res := fun e => by rw [hb.block (x + 2) (by have := h.size; omega)]; exact h.res d8
  copy := fun _ _ => AggsAt.mono hv h.size
  row := fun e e' => by
    obtain ⟨q, q1, q2, q3, q4⟩ := h.row e d6
    exact ⟨q, q1, by rw [hb.block q (lt_of_block q2)]; exact q2, q3, fun _ e3 => by
      have := (aggs_own hv q e3).1
      have := lt_of_block q2
      omega⟩
  ins := fun e _ => by have : done 6 = true := e; rw [d6] at this; cases this
  reg := fun e => by have : done 7 = true := e; rw [d7] at this; cases this
  dn67 := fun e => by have : done 7 = true := e; rw [d7] at this; cases this
  fin := fun e => by have : done 8 = true := e; rw [d8] at this; cases this
/-- the person's row is laid -/
theorem SIns.laid {w1 : World} {x n : Nat} {ps qs : List Pn} {p : Pn} {done : Nat → Bool} {vs : Nat → Value} {W : World} (h : SIns w1 x n ps qs p done vs W) (d6 : done 6 = false) (d8 : done 8 = false) (d7 : done 7 = false) :
    SIns w1 x n ps qs p (fun j => if j = 5 then true else done j) (inv.upd vs 5 (.slice (some ⟨W.heap.size, 0, none⟩) 1 1)) (W.alloc (.cells #[.string p.nm, .int .i64 p.co, .int .i64 p.sk, .int .i64 p.fr, .int .i64 p.un] 27)) where
  below := h.below.trans ((below_box W _).mono (by have := h.size; omega))
  size := Nat.le_trans h.size (below_box W _).size
  res := fun e => by rw [(below_box W _).block (x + 2) (by have := h.size; omega)]; exact h.res d8
  copy := fun e _ => AggsAt.alloc (h.copy e d6) _
  row := fun _ _ => ⟨_, rfl, heap_alloc_new W _, h.size, fun e e3 => by
    have := (aggs_own (h.copy e d6) _ e3).2
    omega⟩
  ins := fun e _ => by have : done 6 = true := e; rw [d6] at this; cases this
  reg := fun e => by have : done 7 = true := e; rw [d7] at this; cases this
  dn67 := fun e => by have : done 7 = true := e; rw [d7] at this; cases this
  fin := fun e => by have : done 8 = true := e; rw [d8] at this; cases this
/-- the person is put in -/
theorem SIns.put {w1 : World} {x n : Nat} {ps qs : List Pn} {p : Pn} {done : Nat → Bool} {vs : Nat → Value} {W W' : World} {v : Value} (h : SIns w1 x n ps qs p done vs W) (d2 : done 2 = true) (d6 : done 6 = false) (d8 : done 8 = false) (d7 : done 7 = false) (hg : W.grownBy W' (vs 2).ownBlock) (hv : AggsAt 27 5 encPn W' (x + 3) v qs) :
    SIns w1 x n ps qs p (fun j => if j = 6 then true else done j) (inv.upd vs 6 v) W' where
  below := h.below.grown hg (by have := h.size; omega) (fun k hk => by have := (aggs_own (h.copy d2 d6) k hk).1; omega)
  size := Nat.le_trans h.size hg.size
  res := fun e => by
    rw [hg.block (x + 2) (by have := h.size; omega) (fun e2 => by have := (aggs_own (h.copy d2 d6) _ e2.symm).1; omega)]; exact h.res d8
  copy := fun _ e' => by simp at e'
  row := fun _ e' => by simp at e'
  ins := fun _ _ => hv
  reg := fun e => by have : done 7 = true := e; rw [d7] at this; cases this
  dn67 := fun e => by have : done 7 = true := e; rw [d7] at this; cases this
  fin := fun e => by have : done 8 = true := e; rw [d8] at this; cases this
theorem SIns.made {w1 : World} {x n : Nat} {ps qs : List Pn} {p : Pn} {done : Nat → Bool} {vs : Nat → Value} {W : World} {v : Value} (h : SIns w1 x n ps qs p done vs W) (d6 : done 6 = true) (hv : v = .agg #[vs 6]) :
    SIns w1 x n ps qs p (fun j => if j = 7 then true else done j) (inv.upd vs 7 v) W :=
  { below := h.below, size := h.size, res := h.res, copy := h.copy, row := h.row, ins := h.ins, reg := fun _ => hv, dn67 := fun _ => d6, fin := h.fin }
theorem SIns.stored {w1 : World} {x n : Nat} {ps qs : List Pn} {p : Pn} {done : Nat → Bool} {vs : Nat → Value} {W : World} {a : Option Addr} {c : Nat} {v : Value} (h : SIns w1 x n ps qs p done vs W) (d6 : done 6 = true) (d8 : done 8 = false) (hv : vs 6 = .slice a n c) (hf : ∀ y ∈ qs, y.nm.size ≤ maxLen) (hn : qs.length = n) :
    SIns w1 x n ps qs p (fun j => if j = 8 then true else done j) (inv.upd vs 8 v) (W.setCell ⟨x + 2, 0, none⟩ (.slice a n c)) := by
  have gs : W.grownBy (W.setCell ⟨x + 2, 0, none⟩ (.slice a n c)) (some (x + 2)) := gb_set _ (gb_refl W _)
  have hi := h.ins d6 d8
  rw [hv] at hi
  have ag := hi.grown gs (fun k hk => by cases hk; omega)
  obtain ⟨a2, c2, e2, r2⟩ := reg_of ag hf
  rw [hn] at e2 r2
  injection e2 with e3 _ e4
  subst e3; subst e4
  exact {
    below := h.below.setCell (p := ⟨x + 2, 0, none⟩) (Nat.le_refl _) _
    size := Nat.le_trans h.size gs.size
    res := fun e => by simp at e
    copy := fun _ e' => by have : done 6 = false := e'; rw [d6] at this; cases this
    row := fun _ e' => by have : done 6 = false := e'; rw [d6] at this; cases this
    ins := fun _ e' => by simp at e'
    reg := h.reg
    dn67 := h.dn67
    fin := fun _ => ⟨a, c, set_at (i := 0) (.slice a n c) (h.res d8), r2⟩ }
def DIn (x Q N c : Nat) (a : Option Addr) (p : Pn) : Nat → Value → World → Prop
  | 0, v, _ => v = .pointer (some ⟨x, 0, none⟩)
  | 1, v, _ => v = .slice a N c
  | 3, v, _ => v = .int .i64 (Q : Int)
  | 4, v, _ => v = pnV p
  | 9, v, _ => v = .int .i64 0
  | _, _, _ => True
theorem DIn.kept {x Q N c : Nat} {a : Option Addr} {p : Pn} {W W' : World} : ∀ j v, DIn x Q N c a p j v W → DIn x Q N c a p j v W'
  | 0, _, h | 1, _, h | 2, _, h | 3, _, h | 4, _, h | 5, _, h | 6, _, h | 7, _, h | 8, _, h | 9, _, h | _ + 10, _, h => h
set_option maxRecDepth 100000 in
set_option maxHeartbeats 8000000 in
theorem add_is (a : Option Addr) (N c : Nat) (ps : List Pn) (p : Pn) (w : World) (h : RegIn w a N c ps) (hcl : HasClasses w) (hw : SkI ps) (hpl : p.nm.size ≤ maxLen) (hpk : I64 p.sk) :
    Calls Tryz.prog 20 #[.agg #[.slice a N c], pnV p] w (RegPost (addP ps p).1 (addP ps p).2 w) := by
  obtain ⟨⟨R1, R2⟩, hR⟩ : ∃ R, addP ps p = R := ⟨_, rfl⟩
  rw [hR]
  dsimp only
  have bx := below_box w (.cells #[.slice a N c] 25)
  have by_ := below_box (w.alloc (.cells #[.slice a N c] 25)) (.cells #[.string p.nm, .int .i64 p.co, .int .i64 p.sk, .int .i64 p.fr, .int .i64 p.un] 27)
  have bz := below_box ((w.alloc (.cells #[.slice a N c] 25)).alloc (.cells #[.string p.nm, .int .i64 p.co, .int .i64 p.sk, .int .i64 p.fr, .int .i64 p.un] 27)) (.cells #[.slice none 0 0] 25)
  have BX := Lib.hid ((bx.trans (by_.mono bx.size)).trans (bz.mono (bx.trans (by_.mono bx.size)).size))
  have NT := Lib.hid (((OneAt.new w (.slice a N c) 25).below by_ (by simp)).below bz (by simp; omega))
  have PT := Lib.hid ((PnAt.new (w.alloc (.cells #[.slice a N c] 25)) p 27).below bz (by simp))
  have hres := heap_alloc_new ((w.alloc (.cells #[.slice a N c] 25)).alloc (.cells #[.string p.nm, .int .i64 p.co, .int .i64 p.sk, .int .i64 p.fr, .int .i64 p.un] 27)) (.cells #[.slice none 0 0] 25)
  rw [World.size_alloc, World.size_alloc] at hres
  rw [World.size_alloc] at PT
  have HN := Lib.hid (fun wr (bel : Below w.heap.size w wr) => h.below bel)
  obtain ⟨x, hx⟩ : ∃ x, w.heap.size = x := ⟨_, rfl⟩
  obtain ⟨W1, hW1⟩ : ∃ W, ((w.alloc (.cells #[.slice a N c] 25)).alloc (.cells #[.string p.nm, .int .i64 p.co, .int .i64 p.sk, .int .i64 p.fr, .int .i64 p.un] 27)).alloc (.cells #[.slice none 0 0] 25) = W := ⟨_, rfl⟩
  have hs1 : W1.heap.size = x + 3 := by rw [← hW1, ← hx]; simp
  rw [hW1] at BX NT hres PT
  rw [hx] at NT hres PT
  have HN0 := Lib.hid h.len
  have hft := Lib.hid h.fit
  have hn := h.len
  obtain ⟨E, hE⟩ : ∃ E, chkP ps = E := ⟨_, rfl⟩
  obtain ⟨F, hF⟩ : ∃ F, pnE p = F := ⟨_, rfl⟩
  have CK := Lib.hid (check_is a N c ps E W1 (HN.out _ BX.out) (hcl.below BX.out) hw hE)
  have FT := Lib.hid (fun W (b : Below w.heap.size w W) => checkPerson_is p F W (hcl.below b) hpl hpk hF)
  rw [hx] at BX HN FT
  have RES : Hid (∀ W, Below W1.heap.size W1 W → W.heap[x + 2]? = some (.cells #[.slice none 0 0] 25 (0, 0))) := fun W b => by rw [b.block (x + 2) (by omega)]; exact hres
  have HPL := Lib.hid hpl
  unfold pnV at FT ⊢
  obtain ⟨nm, co, sk, fr, un⟩ := p
  dsimp only at FT PT HPL hW1 hR ⊢
  clear bx by_ bz hres hpl hpk hcl hw
  by_cases e0 : E = 0
  · subst e0
    by_cases f0 : F = 0
    · subst f0
      have hOk := chkP_zero.1 hE
      have h64 : N ≤ 64 := by rw [← hn]; exact hOk.len
      obtain ⟨Q, hQ⟩ : ∃ Q, pos ps nm = Q := ⟨_, rfl⟩
      have hQN : Q ≤ N := by rw [← hQ, ← hn]; exact pos_le ps nm
      obtain ⟨b, hb⟩ : ∃ b, decide (fnd (nmsP ps) nm ≠ -1) = b := ⟨_, rfl⟩
      have PL := Lib.hid (fun W (bel : Below x w W) => placeOf_is a N c ps nm Q b W (HN.out W bel) h64 hOk.up hQ hb)
      have hA : addP ps ⟨nm, co, sk, fr, un⟩ = if fnd (nmsP ps) nm ≠ -1 then ([], 4) else if 64 ≤ N then ([], 1) else (ps.take Q ++ ⟨nm, co, sk, fr, un⟩ :: ps.drop Q, 0) := by
        unfold addP
        rw [if_neg (by simp [hE]), if_neg (by simp [hF]), ins_pos, hn, hQ]
      rw [hR] at hA
      cases b with
      | true =>
        rw [if_pos (of_decide_eq_true hb)] at hA
        obtain ⟨rfl, rfl⟩ : R1 = [] ∧ R2 = 4 := by injection hA with a b; exact ⟨a, b⟩
        clear hA hR hQ hF h hE hOk hb
        obtain ⟨k1, -⟩ := NT.out
        obtain ⟨q0, q1, q2, q3, q4, -⟩ := PT.out
        dsimp only at q0 q1 q2 q3 q4
        go_enter Tryz.func20, Tryz.ntmps20
        go_wp2_with fail
        refine CK.out.mono ?_; rintro e w2 ⟨rfl, b2⟩
        have B2 := Lib.hid b2
        have BL2 := Lib.hid (BX.out.trans (b2.mono (by omega)))
        obtain ⟨k1, -⟩ := NT.out.below b2 NT.out.2
        obtain ⟨q0, q1, q2, q3, q4, -⟩ := PT.out.below b2 PT.out.2.2.2.2.2
        dsimp only at q0 q1 q2 q3 q4
        clear b2
        go_wp2_with fail
        refine (FT.out _ BL2.out).mono ?_; rintro e w3 ⟨rfl, b3⟩
        have B3 := Lib.hid (B2.out.trans (b3.mono B2.out.size))
        have BL3 := Lib.hid (BL2.out.trans (b3.mono (by have := B2.out.size; omega)))
        obtain ⟨k1, -⟩ := NT.out.below B3.out NT.out.2
        obtain ⟨q0, q1, q2, q3, q4, -⟩ := PT.out.below B3.out PT.out.2.2.2.2.2
        dsimp only at q0 q1 q2 q3 q4
        clear b3
        go_wp2_with fail
        refine (PL.out _ BL3.out).mono ?_; rintro e w4 ⟨rfl, b4⟩
        have B4 := Lib.hid (B3.out.trans (b4.mono B3.out.size))
        have BL4 := Lib.hid (BL3.out.trans (b4.mono (by have := B3.out.size; omega)))
        obtain ⟨k1, -⟩ := NT.out.below B4.out NT.out.2
        obtain ⟨q0, q1, q2, q3, q4, -⟩ := PT.out.below B4.out PT.out.2.2.2.2.2
        dsimp only at q0 q1 q2 q3 q4
        clear b4
        have hr3 := RES.out _ B4.out
        obtain ⟨c0, z0⟩ := cell_at hr3 0
        have e1 := set_at (i := 0) (.slice none 0 0) hr3
        have p0 := (cell_at e1 0).1
        have BE := Lib.hid (BL4.out.setCell (p := ⟨x + 2, 0, none⟩) (by show x ≤ x + 2; omega) (.slice none 0 0))
        clear hr3 e1
        go_wp2
        exact bodyPost_ret (v := .tuple #[.agg #[.slice none 0 0], .int .i64 4]) (by simp [results, Tryz.results20, go_sem, p0]) rfl ⟨_, _, _, rfl, reg_nil _, by rw [hx]; exact BE.out⟩
      | false =>
        rw [if_neg (of_decide_eq_false hb)] at hA
        by_cases h64' : N = 64
        · rw [if_pos (by omega)] at hA
          obtain ⟨rfl, rfl⟩ : R1 = [] ∧ R2 = 1 := by injection hA with a b; exact ⟨a, b⟩
          have T64 : ((N : Int) == 64) = true := beq_iff_eq.2 (by omega)
          clear hA hR hQ hF h hE hOk hb h64' hn
          obtain ⟨k1, -⟩ := NT.out
          obtain ⟨q0, q1, q2, q3, q4, -⟩ := PT.out
          dsimp only at q0 q1 q2 q3 q4
          go_enter Tryz.func20, Tryz.ntmps20
          go_wp2_with fail
          refine CK.out.mono ?_; rintro e w2 ⟨rfl, b2⟩
          have B2 := Lib.hid b2
          have BL2 := Lib.hid (BX.out.trans (b2.mono (by omega)))
          obtain ⟨k1, -⟩ := NT.out.below b2 NT.out.2
          obtain ⟨q0, q1, q2, q3, q4, -⟩ := PT.out.below b2 PT.out.2.2.2.2.2
          dsimp only at q0 q1 q2 q3 q4
          clear b2
          go_wp2_with fail
          refine (FT.out _ BL2.out).mono ?_; rintro e w3 ⟨rfl, b3⟩
          have B3 := Lib.hid (B2.out.trans (b3.mono B2.out.size))
          have BL3 := Lib.hid (BL2.out.trans (b3.mono (by have := B2.out.size; omega)))
          obtain ⟨k1, -⟩ := NT.out.below B3.out NT.out.2
          obtain ⟨q0, q1, q2, q3, q4, -⟩ := PT.out.below B3.out PT.out.2.2.2.2.2
          dsimp only at q0 q1 q2 q3 q4
          clear b3
          go_wp2_with fail
          refine (PL.out _ BL3.out).mono ?_; rintro e w4 ⟨rfl, b4⟩
          have B4 := Lib.hid (B3.out.trans (b4.mono B3.out.size))
          have BL4 := Lib.hid (BL3.out.trans (b4.mono (by have := B3.out.size; omega)))
          obtain ⟨k1, -⟩ := NT.out.below B4.out NT.out.2
          obtain ⟨q0, q1, q2, q3, q4, -⟩ := PT.out.below B4.out PT.out.2.2.2.2.2
          dsimp only at q0 q1 q2 q3 q4
          clear b4
          have hr3 := RES.out _ B4.out
          obtain ⟨c0, z0⟩ := cell_at hr3 0
          have e1 := set_at (i := 0) (.slice none 0 0) hr3
          have p0 := (cell_at e1 0).1
          have BE := Lib.hid (BL4.out.setCell (p := ⟨x + 2, 0, none⟩) (by show x ≤ x + 2; omega) (.slice none 0 0))
          clear hr3 e1
          go_wp2
          exact bodyPost_ret (v := .tuple #[.agg #[.slice none 0 0], .int .i64 1]) (by simp [results, Tryz.results20, go_sem, p0]) rfl ⟨_, _, _, rfl, reg_nil _, by rw [hx]; exact BE.out⟩
        · rw [if_neg (by omega)] at hA
          obtain ⟨rfl, rfl⟩ : R1 = ps.take Q ++ ⟨nm, co, sk, fr, un⟩ :: ps.drop Q ∧ R2 = 0 := by injection hA with a b; exact ⟨a, b⟩
          have T64 : ((N : Int) == 64) = false := beq_eq_false_iff_ne.2 (by omega)
          have NT2 : Hid (∀ W, Below (x + 2) W1 W → W.cell? ⟨x, 0, none⟩ = some (.slice a N c)) := fun W b => (NT.out.below b (by omega)).1
          have PT2 : Hid (∀ W, Below (x + 2) W1 W → W.cell? ⟨x + 1, 0, none⟩ = some (.string nm) ∧ W.cell? ⟨x + 1, 1, none⟩ = some (.int .i64 co) ∧ W.cell? ⟨x + 1, 2, none⟩ = some (.int .i64 sk) ∧ W.cell? ⟨x + 1, 3, none⟩ = some (.int .i64 fr) ∧ W.cell? ⟨x + 1, 4, none⟩ = some (.int .i64 un)) := fun W b => by
            obtain ⟨q0, q1, q2, q3, q4, -⟩ := PT.out.below b (by omega)
            exact ⟨q0, q1, q2, q3, q4⟩
          have BL2W : Hid (∀ W, Below (x + 2) W1 W → Below x w W) := fun W b => BX.out.trans (b.mono (by omega))
          have CLN := Lib.hid (fun W (bel : Below (x + 2) W1 W) => clone_is a N c ps W (HN.out W (BL2W.out W bel)) h64)
          have PSL : Hid (ps.length ≤ 64) := hOk.len
          have QL := Lib.hid hQN
          have HFIT : Hid (∀ y ∈ ps.take Q ++ ⟨nm, co, sk, fr, un⟩ :: ps.drop Q, y.nm.size ≤ maxLen) := fun y hy => by
            rcases List.mem_append.1 hy with hy | hy
            · exact hft.out y (List.mem_of_mem_take hy)
            · rcases List.mem_cons.1 hy with rfl | hy
              · exact HPL.out
              · exact hft.out y (List.mem_of_mem_drop hy)
          clear hA hR hQ hF h hE hOk hb h64' hn
          obtain ⟨k1, -⟩ := NT.out
          obtain ⟨q0, q1, q2, q3, q4, -⟩ := PT.out
          dsimp only at q0 q1 q2 q3 q4
          go_enter Tryz.func20, Tryz.ntmps20
          go_wp2_with fail
          refine CK.out.mono ?_; rintro e w2 ⟨rfl, b2⟩
          have B2 := Lib.hid b2
          have BL2 := Lib.hid (BX.out.trans (b2.mono (by omega)))
          obtain ⟨k1, -⟩ := NT.out.below b2 NT.out.2
          obtain ⟨q0, q1, q2, q3, q4, -⟩ := PT.out.below b2 PT.out.2.2.2.2.2
          dsimp only at q0 q1 q2 q3 q4
          clear b2
          go_wp2_with fail
          refine (FT.out _ BL2.out).mono ?_; rintro e w3 ⟨rfl, b3⟩
          have B3 := Lib.hid (B2.out.trans (b3.mono B2.out.size))
          have BL3 := Lib.hid (BL2.out.trans (b3.mono (by have := B2.out.size; omega)))
          obtain ⟨k1, -⟩ := NT.out.below B3.out NT.out.2
          obtain ⟨q0, q1, q2, q3, q4, -⟩ := PT.out.below B3.out PT.out.2.2.2.2.2
          dsimp only at q0 q1 q2 q3 q4
          clear b3
          go_wp2_with fail
          refine (PL.out _ BL3.out).mono ?_; rintro e w4 ⟨rfl, b4⟩
          have B4 := Lib.hid (B3.out.trans (b4.mono B3.out.size))
          have BL4 := Lib.hid (BL3.out.trans (b4.mono (by have := B3.out.size; omega)))
          obtain ⟨k1, -⟩ := NT.out.below B4.out NT.out.2
          obtain ⟨q0, q1, q2, q3, q4, -⟩ := PT.out.below B4.out PT.out.2.2.2.2.2
          dsimp only at q0 q1 q2 q3 q4
          clear b4
          go_wp2_with fail
          have S0 : Hid (∀ yh, SIns W1 x (N + 1) ps (ps.take Q ++ ⟨nm, co, sk, fr, un⟩ :: ps.drop Q) ⟨nm, co, sk, fr, un⟩ (fun _ => false) yh w4.drew) := fun yh => {
            below := ((B4.out.mono (by omega) : Below (x + 2) W1 w4)).drew
            size := by have := B4.out.size; show x + 3 ≤ w4.heap.size; omega
            res := fun _ => (show w4.drew.heap[x + 2]? = w4.heap[x + 2]? from rfl).trans (RES.out _ B4.out)
            copy := fun e => by cases e
            row := fun e => by cases e
            ins := fun e => by cases e
            reg := fun e => by cases e
            dn67 := fun e => by cases e
            fin := fun e => by cases e }
          refine inv.wp_region_inv4 (SIns W1 x (N + 1) ps (ps.take Q ++ ⟨nm, co, sk, fr, un⟩ :: ps.drop Q) ⟨nm, co, sk, fr, un⟩) (DIn x Q N c a ⟨nm, co, sk, fr, un⟩) (by kernel_rfl) (by kernel_rfl) (S0.out _) ?steps ?rest
          case steps =>
            refine ⟨fun vs W done hS hD hdn hno hold hcl hme K hK => ?_, fun vs W done hS hD hdn hno hold hcl hme K hK => ?_, fun vs W done hS hD hdn hno hold hcl hme K hK => ?_, fun vs W done hS hD hdn hno hold hcl hme K hK => ?_, fun vs W done hS hD hdn hno hold hcl hme K hK => ?_, fun vs W done hS hD hdn hno hold hcl hme K hK => ?_, fun vs W done hS hD hdn hno hold hcl hme K hK => ?_, fun vs W done hS hD hdn hno hold hcl hme K hK => ?_, fun vs W done hS hD hdn hno hold hcl hme K hK => ?_, fun vs W done hS hD hdn hno hold hcl hme K hK => ?_, trivial⟩
            · clear hold; clear hcl; simp only [inv.dstsL, inv.putT, Nat.reduceAdd, List.set_cons_zero, List.set_cons_succ]
              go_simp
              exact hK _ _ _ (by simp only [inv.dstsL, inv.putT, Nat.reduceAdd, List.set_cons_zero, List.set_cons_succ]; (try rfl)) (hS.mark 0 _ (by decide) (by decide) (by decide) (by decide) (by decide)) (rfl) (fun _ _ _ _ h => h)
            · clear hold; clear hcl; simp only [inv.dstsL, inv.putT, Nat.reduceAdd, List.set_cons_zero, List.set_cons_succ]
              have h0 : (vs 0) = .pointer (some ⟨x, 0, none⟩) := hD 0 (by kernel_rfl)
              have c0 := (NT2.out W hS.below)
              rw [h0]
              go_simp
              exact hK _ _ _ (by simp only [inv.dstsL, inv.putT, Nat.reduceAdd, List.set_cons_zero, List.set_cons_succ, h0]; (try rfl)) (hS.mark 1 _ (by decide) (by decide) (by decide) (by decide) (by decide)) (rfl) (fun _ _ _ _ h => h)
            · clear hold; simp only [inv.dstsL, inv.putT, Nat.reduceAdd, List.set_cons_zero, List.set_cons_succ]
              have h1 : (vs 1) = .slice a N c := hD 1 (by kernel_rfl)
              have d6 := hno 6 (by kernel_rfl)
              have d7 : done 7 = false := Bool.eq_false_iff.2 (fun h => by have := hcl 7 (by decide) h 6 (by kernel_rfl); rw [d6] at this; cases this)
              have d8 : done 8 = false := Bool.eq_false_iff.2 (fun h => by have := hcl 8 (by decide) h 7 (by kernel_rfl); rw [d7] at this; cases this)
              clear hcl
              rw [h1]
              go_simp
              refine (CLN.out W hS.below).mono ?_; rintro e W2 ⟨v1, rfl, ag, b4⟩
              exact hK _ _ _ (by simp only [inv.dstsL, inv.putT, Nat.reduceAdd, List.set_cons_zero, List.set_cons_succ, h1]; (try rfl)) (hS.copied d6 d8 d7 b4 ag) (trivial) (fun j v _ _ => (DIn.kept) j v)
            · clear hold; clear hcl; simp only [inv.dstsL, inv.putT, Nat.reduceAdd, List.set_cons_zero, List.set_cons_succ]
              go_simp
              exact hK _ _ _ (by simp only [inv.dstsL, inv.putT, Nat.reduceAdd, List.set_cons_zero, List.set_cons_succ]; (try rfl)) (hS.mark 3 _ (by decide) (by decide) (by decide) (by decide) (by decide)) (rfl) (fun _ _ _ _ h => h)
            · clear hold; clear hcl; simp only [inv.dstsL, inv.putT, Nat.reduceAdd, List.set_cons_zero, List.set_cons_succ]
              obtain ⟨q0, q1, q2, q3, q4⟩ := PT2.out W hS.below
              go_simp
              exact hK _ _ _ (by simp only [inv.dstsL, inv.putT, Nat.reduceAdd, List.set_cons_zero, List.set_cons_succ]; (try rfl)) (hS.mark 4 _ (by decide) (by decide) (by decide) (by decide) (by decide)) (rfl) (fun _ _ _ _ h => h)
            · clear hold; simp only [inv.dstsL, inv.putT, Nat.reduceAdd, List.set_cons_zero, List.set_cons_succ]
              have h4 : (vs 4) = pnV ⟨nm, co, sk, fr, un⟩ := hD 4 (by kernel_rfl)
              have d6 := hno 6 (by kernel_rfl)
              have d7 : done 7 = false := Bool.eq_false_iff.2 (fun h => by have := hcl 7 (by decide) h 6 (by kernel_rfl); rw [d6] at this; cases this)
              have d8 : done 8 = false := Bool.eq_false_iff.2 (fun h => by have := hcl 8 (by decide) h 7 (by kernel_rfl); rw [d7] at this; cases this)
              clear hcl
              rw [h4]
              unfold pnV
              go_simp
              exact hK _ _ _ (by simp only [inv.dstsL, inv.putT, Nat.reduceAdd, List.set_cons_zero, List.set_cons_succ, h4]; (try rfl)) (hS.laid d6 d8 d7) (trivial) (fun j v _ _ => (DIn.kept) j v)
            · clear hold; simp only [inv.dstsL, inv.putT, Nat.reduceAdd, List.set_cons_zero, List.set_cons_succ]
              have h3 : (vs 3) = .int .i64 (Q : Int) := hD 3 (by kernel_rfl)
              have d2 : done 2 = true := hdn 2 (by kernel_rfl)
              have d6 : done 6 = false := hme
              have d7 := hno 7 (by kernel_rfl)
              have d8 : done 8 = false := Bool.eq_false_iff.2 (fun h => by have := hcl 8 (by decide) h 7 (by kernel_rfl); rw [d7] at this; cases this)
              clear hcl
              obtain ⟨q, h5q, hqb, hqx, hqn⟩ := hS.row (hdn 5 (by kernel_rfl)) d6
              rw [h3, h5q]
              go_simp
              refine (insert_is (x + 3) q Q (vs 2) ps _ W (hS.copy d2 d6) (by have := PSL.out; omega) (by have := QL.out; have := HN0.out; omega) hS.size (hqn d2) hqb).mono ?_; rintro e W2 ⟨v1, rfl, ag, g4⟩
              exact hK _ _ _ (by simp only [inv.dstsL, inv.putT, Nat.reduceAdd, List.set_cons_zero, List.set_cons_succ, h3, h5q]; (try rfl)) (hS.put d2 d6 d8 d7 g4 ag) (trivial) (fun j v _ _ => (DIn.kept) j v)
            · clear hold; clear hcl; simp only [inv.dstsL, inv.putT, Nat.reduceAdd, List.set_cons_zero, List.set_cons_succ]
              have d6 := hdn 6 (by kernel_rfl)
              have d8 := hno 8 (by kernel_rfl)
              obtain ⟨a2, c2, h62⟩ : ∃ a2 c2, vs 6 = .slice a2 (N + 1) c2 := by obtain ⟨a9, c9, e, -⟩ := AggsAt.length (hS.ins d6 d8) encPn_len; exact ⟨a9, c9, by rw [e, ins_len HN0.out QL.out]⟩
              rw [h62]
              go_simp
              exact hK _ _ _ (by simp only [inv.dstsL, inv.putT, Nat.reduceAdd, List.set_cons_zero, List.set_cons_succ, h62]; (try rfl)) (hS.made d6 (by rw [h62])) (trivial) (fun _ _ _ _ h => h)
            · clear hold; simp only [inv.dstsL, inv.putT, Nat.reduceAdd, List.set_cons_zero, List.set_cons_succ]
              have d6 : done 6 = true := hS.dn67 (hdn 7 (by kernel_rfl))
              have d8 : done 8 = false := hme
              obtain ⟨a2, c2, h62⟩ : ∃ a2 c2, vs 6 = .slice a2 (N + 1) c2 := by obtain ⟨a9, c9, e, -⟩ := AggsAt.length (hS.ins d6 d8) encPn_len; exact ⟨a9, c9, by rw [e, ins_len HN0.out QL.out]⟩
              have h72 := hS.reg (hdn 7 (by kernel_rfl))
              rw [h62] at h72
              obtain ⟨c0, f0⟩ := cell_at (hS.res d8) 0
              clear hcl
              rw [h72]
              go_simp
              exact hK undef _ _ (by simp only [inv.dstsL, inv.putT, Nat.reduceAdd, List.set_cons_zero, List.set_cons_succ, h72, h62]; (try rfl)) (hS.stored d6 d8 h62 HFIT.out (ins_len HN0.out QL.out)) (by first | rfl | trivial) (fun j v _ _ => DIn.kept j v)
            · clear hold; clear hcl; simp only [inv.dstsL, inv.putT, Nat.reduceAdd, List.set_cons_zero, List.set_cons_succ]
              go_simp
              exact hK _ _ _ (by simp only [inv.dstsL, inv.putT, Nat.reduceAdd, List.set_cons_zero, List.set_cons_succ]; (try rfl)) (hS.mark 9 _ (by decide) (by decide) (by decide) (by decide) (by decide)) (rfl) (fun _ _ _ _ h => h)
          case rest =>
            intro vs W done hdone hS hD
            obtain ⟨a9, c9, h9, r9⟩ := hS.fin (hdone 8 (by decide))
            have BL9 := Lib.hid (BL2W.out W hS.below)
            have h09 : vs 9 = .int .i64 0 := hD 9 (by decide)
            simp only [inv.dstsL, inv.putT, Nat.reduceAdd, List.set_cons_zero, List.set_cons_succ]
            rw [h09]
            have p0 := (cell_at h9 0).1
            have R9 := Lib.hid r9
            generalize vs 0 = y0, vs 1 = y1, vs 2 = y2, vs 3 = y3, vs 4 = y4, vs 5 = y5, vs 6 = y6, vs 7 = y7 at *
            clear hD hdone hS h9 r9 h09
            go_wp2
            exact bodyPost_ret (v := .tuple #[.agg #[.slice a9 (N + 1) c9], .int .i64 0]) (by simp [results, Tryz.results20, go_sem, p0]) rfl ⟨_, _, _, rfl, R9.out, by rw [hx]; exact BL9.out⟩
    · have hA : addP ps ⟨nm, co, sk, fr, un⟩ = ([], F) := by unfold addP; rw [if_neg (by simp [hE]), if_pos (by rw [hF]; exact f0), hF]
      rw [hR] at hA
      obtain ⟨rfl, rfl⟩ : R1 = [] ∧ F = R2 := by injection hA with a b; exact ⟨a, b.symm⟩
      have TF : (F == 0) = false := beq_eq_false_iff_ne.2 f0
      clear hA hR hF h f0 hE
      obtain ⟨k1, -⟩ := NT.out
      obtain ⟨q0, q1, q2, q3, q4, -⟩ := PT.out
      dsimp only at q0 q1 q2 q3 q4
      go_enter Tryz.func20, Tryz.ntmps20
      go_wp2_with fail
      refine CK.out.mono ?_; rintro e w2 ⟨rfl, b2⟩
      have B2 := Lib.hid b2
      have BL2 := Lib.hid (BX.out.trans (b2.mono (by omega)))
      obtain ⟨k1, -⟩ := NT.out.below b2 NT.out.2
      obtain ⟨q0, q1, q2, q3, q4, -⟩ := PT.out.below b2 PT.out.2.2.2.2.2
      dsimp only at q0 q1 q2 q3 q4
      clear b2
      go_wp2_with fail
      refine (FT.out _ BL2.out).mono ?_; rintro e w3 ⟨rfl, b3⟩
      have B3 := Lib.hid (B2.out.trans (b3.mono B2.out.size))
      have BL3 := Lib.hid (BL2.out.trans (b3.mono (by have := B2.out.size; omega)))
      obtain ⟨k1, -⟩ := NT.out.below B3.out NT.out.2
      obtain ⟨q0, q1, q2, q3, q4, -⟩ := PT.out.below B3.out PT.out.2.2.2.2.2
      dsimp only at q0 q1 q2 q3 q4
      clear b3
      have hr3 := RES.out _ B3.out
      obtain ⟨c0, z0⟩ := cell_at hr3 0
      have e1 := set_at (i := 0) (.slice none 0 0) hr3
      have p0 := (cell_at e1 0).1
      have BE := Lib.hid (BL3.out.setCell (p := ⟨x + 2, 0, none⟩) (by show x ≤ x + 2; omega) (.slice none 0 0))
      clear hr3 e1
      go_wp2
      exact bodyPost_ret (v := .tuple #[.agg #[.slice none 0 0], .int .i64 F]) (by simp [results, Tryz.results20, go_sem, p0]) rfl ⟨_, _, _, rfl, reg_nil _, by rw [hx]; exact BE.out⟩
  · have hA : addP ps ⟨nm, co, sk, fr, un⟩ = ([], E) := by unfold addP; rw [if_pos (by rw [hE]; exact e0), hE]
    rw [hR] at hA
    obtain ⟨rfl, rfl⟩ : R1 = [] ∧ E = R2 := by injection hA with a b; exact ⟨a, b.symm⟩
    have TE : (E == 0) = false := beq_eq_false_iff_ne.2 e0
    clear hA hR hF h e0 hE
    obtain ⟨k1, -⟩ := NT.out
    obtain ⟨q0, q1, q2, q3, q4, -⟩ := PT.out
    dsimp only at q0 q1 q2 q3 q4
    go_enter Tryz.func20, Tryz.ntmps20
    go_wp2_with fail
    refine CK.out.mono ?_; rintro e w2 ⟨rfl, b2⟩
    have B2 := Lib.hid b2
    have BL2 := Lib.hid (BX.out.trans (b2.mono (by omega)))
    obtain ⟨k1, -⟩ := NT.out.below b2 NT.out.2
    obtain ⟨q0, q1, q2, q3, q4, -⟩ := PT.out.below b2 PT.out.2.2.2.2.2
    dsimp only at q0 q1 q2 q3 q4
    clear b2
    have hr3 := RES.out _ B2.out
    obtain ⟨c0, z0⟩ := cell_at hr3 0
    have e1 := set_at (i := 0) (.slice none 0 0) hr3
    have p0 := (cell_at e1 0).1
    have BE := Lib.hid (BL2.out.setCell (p := ⟨x + 2, 0, none⟩) (by show x ≤ x + 2; omega) (.slice none 0 0))
    clear hr3 e1
    go_wp2
    exact bodyPost_ret (v := .tuple #[.agg #[.slice none 0 0], .int .i64 E]) (by simp [results, Tryz.results20, go_sem, p0]) rfl ⟨_, _, _, rfl, reg_nil _, by rw [hx]; exact BE.out⟩
end Go.Proofs.YthdjpmiohfaphaaGreatDoor.reg

/- A person that is made of numbers: mk.Person. It is valid. No condition. -/
namespace Go.Proofs.YthdjpmiohfaphaaGreatDoor.reg
open Go.RowKit lex aggs kit net deck

/-- what mk.Person leaves -/
def PersonPost (w0 w : World) (a : Option Addr) (len cap bd : Nat) (e : Ending) (w' : World) : Prop :=
  ∃ p : Pn, e = .returned (pnV p) ∧ pnE p = 0 ∧ p.nm.size ≤ maxLen ∧ Game w0 w' bd a len cap ∧ w.grownBy w' (some bd)
theorem made_ok {k : Nat} {c s f u : Int} (hk : k < 100) (c0 : 0 ≤ c) (c1 : c < 3) (s0 : 0 ≤ s) (s1 : s < 32) (f0 : 0 ≤ f) (f1 : f < 2000) (u0 : 0 ≤ u) (u1 : u < 1500) : pnE ⟨nmB 80 k, c, s, f, f + 1 + u⟩ = 0 :=
  pnE_zero.2 ⟨nmB_name (by decide) hk, ⟨⟨c0, by dsimp only; omega⟩, s0, by dsimp only; omega⟩, f0, by dsimp only; omega, by dsimp only; omega⟩
theorem gb_tr {W W1 W2 : World} {bd : Nat} (h : W.grownBy W1 (some bd)) (g : W1.grownBy W2 (some bd)) : W.grownBy W2 (some bd) := h.andThen g (fun _ hj => .inr hj)
set_option maxRecDepth 100000 in
set_option maxHeartbeats 4000000 in
theorem person_is {w0 w : World} {a : Option Addr} {len cap bd : Nat} {zs : List Int} (g : Game w0 w bd a len cap) (hr : IsRow .i64 w0 a len cap zs) :
    Calls Tryz.prog 19 #[.pointer (some ⟨bd, 0, none⟩)] w (PersonPost w0 w a len cap bd) := by
  have HR := Lib.hid hr
  have hb0 := g.lt
  have hz := heap_alloc_new w (.cells #[.string ⟨#[]⟩, .int .i64 0, .int .i64 0, .int .i64 0, .int .i64 0] 27)
  have G1 := Lib.hid (g.alloc (.cells #[.string ⟨#[]⟩, .int .i64 0, .int .i64 0, .int .i64 0, .int .i64 0] 27))
  have B1 := Lib.hid (grown_alloc (gb_refl w (some bd)) (.cells #[.string ⟨#[]⟩, .int .i64 0, .int .i64 0, .int .i64 0, .int .i64 0] 27))
  obtain ⟨x, hx⟩ : ∃ x, w.heap.size = x := ⟨_, rfl⟩
  obtain ⟨W1, hW1⟩ : ∃ W, w.alloc (.cells #[.string ⟨#[]⟩, .int .i64 0, .int .i64 0, .int .i64 0, .int .i64 0] 27) = W := ⟨_, rfl⟩
  have hxl : x < W1.heap.size := by rw [← hW1, ← hx]; simp
  rw [hW1] at hz G1 B1
  rw [hx] at hz
  have HZ := Lib.hid hz
  have hxb : x ≠ bd := by omega
  clear hr g hz
  go_enter Tryz.func19, Tryz.ntmps19
  go_wp2_with fail
  refine (G1.out.next HR.out 2000 (by decide)).mono ?_; rintro e V1 ⟨f, rfl, f0, f1, gm, gb⟩
  have G2 := Lib.hid gm
  have B2 := Lib.hid (gb_tr B1.out gb)
  have R2 := Lib.hid gb
  clear gm gb
  rw [show max (2000 : Int) 1 = 2000 from rfl] at f1
  go_wp2_with fail
  refine (G2.out.next HR.out 12 (by decide)).mono ?_; rintro e V2 ⟨kk, rfl, k0, k1, gm, gb⟩
  rw [show max (12 : Int) 1 = 12 from rfl] at k1
  obtain ⟨k, rfl⟩ : ∃ k : Nat, kk = k := ⟨kk.toNat, by omega⟩
  have hk : k < 100 := by omega
  have G3 := Lib.hid gm
  have B3 := Lib.hid (gb_tr B2.out gb)
  have R3 := Lib.hid (gb_tr R2.out gb)
  clear gm gb k0 k1
  go_wp2_with fail
  refine (name_is 80 k V2 hk).mono ?_; rintro e w' ⟨rfl, rfl⟩
  have G4 := Lib.hid (G3.out.alloc (.cells #[.int .u8 (48 + k / 10 : Int), .int .u8 (48 + k % 10 : Int)] 5))
  have B4 := Lib.hid (grown_alloc B3.out (.cells #[.int .u8 (48 + k / 10 : Int), .int .u8 (48 + k % 10 : Int)] 5))
  have R4 := Lib.hid (grown_alloc R3.out (.cells #[.int .u8 (48 + k / 10 : Int), .int .u8 (48 + k % 10 : Int)] 5))
  go_wp2_with fail
  refine (G4.out.next HR.out 3 (by decide)).mono ?_; rintro e V5 ⟨c, rfl, c0, c1, gm, gb⟩
  rw [show max (3 : Int) 1 = 3 from rfl] at c1
  have G5 := Lib.hid gm
  have B5 := Lib.hid (gb_tr B4.out gb)
  have R5 := Lib.hid (gb_tr R4.out gb)
  clear gm gb
  go_wp2_with fail
  refine (G5.out.next HR.out 32 (by decide)).mono ?_; rintro e V6 ⟨s, rfl, s0, s1, gm, gb⟩
  rw [show max (32 : Int) 1 = 32 from rfl] at s1
  have G6 := Lib.hid gm
  have B6 := Lib.hid (gb_tr B5.out gb)
  have R6 := Lib.hid (gb_tr R5.out gb)
  clear gm gb
  have hw1 : IntKind.i64.wrap (f + 1) = f + 1 := by rw [IntKind.wrap_i64]; omega
  go_wp2_with fail
  refine (G6.out.next HR.out 1500 (by decide)).mono ?_; rintro e V7 ⟨u, rfl, u0, u1, gm, gb⟩
  rw [show max (1500 : Int) 1 = 1500 from rfl] at u1
  have G7 := Lib.hid gm
  have B7 := Lib.hid (gb_tr B6.out gb)
  have R7 := Lib.hid (gb_tr R6.out gb)
  clear gm gb
  have hw2 : IntKind.i64.wrap (f + 1 + u) = f + 1 + u := by rw [IntKind.wrap_i64]; omega
  have hz7 : V7.heap[x]? = some (.cells #[.string ⟨#[]⟩, .int .i64 0, .int .i64 0, .int .i64 0, .int .i64 0] 27 (0, 0)) := by rw [R7.out.block x hxl (by simp; exact hxb)]; exact HZ.out
  have OKP := Lib.hid (made_ok hk c0 c1 s0 s1 f0 f1 u0 u1)
  obtain ⟨q0, z0⟩ := cell_at hz7 0
  obtain ⟨q1, z1⟩ := cell_at hz7 1
  obtain ⟨q2, z2⟩ := cell_at hz7 2
  obtain ⟨q3, z3⟩ := cell_at hz7 3
  obtain ⟨q4, z4⟩ := cell_at hz7 4
  have e1 := set_at (i := 0) (.string (nmB 80 k)) hz7
  have e2 := set_at (i := 1) (.int .i64 c) e1
  have e3 := set_at (i := 2) (.int .i64 s) e2
  have e4 := set_at (i := 3) (.int .i64 f) e3
  have e5 := set_at (i := 4) (.int .i64 (f + 1 + u)) e4
  obtain ⟨V8, hV8⟩ : ∃ W, ((((V7.setCell ⟨x, 0, none⟩ (.string (nmB 80 k))).setCell ⟨x, 1, none⟩ (.int .i64 c)).setCell ⟨x, 2, none⟩ (.int .i64 s)).setCell ⟨x, 3, none⟩ (.int .i64 f)).setCell ⟨x, 4, none⟩ (.int .i64 (f + 1 + u)) = W := ⟨_, rfl⟩
  rw [hV8] at e5
  have E5 := Lib.hid e5
  have gs : V7.grownBy V8 (some x) := by
    rw [← hV8]
    exact gb_set _ (gb_set _ (gb_set _ (gb_set _ (gb_set _ (gb_refl V7 (some x))))))
  have G8 := Lib.hid (G7.out.grown gs (by simp; omega) (fun j hj => by cases hj; have := G7.out.mine; omega))
  have B8 : Hid (w.grownBy V8 (some bd)) := B7.out.andThen gs (fun j hj => by cases hj; exact .inl (by omega))
  have p0 := (cell_at e5 0).1
  have p1 := (cell_at e5 1).1
  have p2 := (cell_at e5 2).1
  have p3 := (cell_at e5 3).1
  have p4 := (cell_at e5 4).1
  clear e1 e2 e3 e4 e5 hz7 gs f0 f1 c0 c1 s0 s1 u0 u1
  go_wp2
  first | rw [hV8] | skip
  exact bodyPost_ret (v := pnV ⟨nmB 80 k, c, s, f, f + 1 + u⟩) (by simp [results, Tryz.results19, go_sem, p0, p1, p2, p3, p4, pnV]) rfl ⟨_, rfl, OKP.out, by simp [nmB, ByteArray.size, maxLen], G8.out, B8.out⟩
end Go.Proofs.YthdjpmiohfaphaaGreatDoor.reg

/- A drawn region by an invariant, third form: what holds of the world may speak of the slots. No program in this text. -/
namespace Go.Proofs.YthdjpmiohfaphaaGreatDoor.inv

def StepOk3 (P : Program) (ops : Array Oper) (Q : Exit → Act → World → Prop) (a : Act) (S : (Nat → Bool) → (Nat → Value) → World → Prop) (D : Nat → Value → World → Prop) (i : Nat) (o : Oper) : Prop :=
  ∀ vs w (done : Nat → Bool), S done vs w → (∀ j, (waits ops i).contains j = true → D j (vs j) w) → (∀ j, (waits ops j).contains i = true → done j = false) → (∀ j, j < ops.size → done j = false → vs j = held a ops j) → (∀ j, j < ops.size → done j = true → ∀ k, (waits ops j).contains k = true → done k = true) → done i = false → ∀ K : Act → World → Prop,
    (∀ v w' a', (putL (dsts ops) a vs).put o.dst v = a' → S (fun j => if j = i then true else done j) (upd vs i v) w' → D i v w' → (∀ j v', j ≠ i → done j = true → D j v' w → D j v' w') → K a' w') →
    if Region.wanted o (yielded ops (putL (dsts ops) a vs).tmps) = true then Oper.wp P o (putL (dsts ops) a vs) w K Q else K ((putL (dsts ops) a vs).put o.dst undef) w
/-- the rule: S is what holds of the world, by what has been done; D what an operation leaves in its slot. The operations are numbered; is: 0, 1, .. -/
theorem wp_region_inv30 {P : Program} {ops : Array Oper} {Q : Exit → Act → World → Prop} {id : Nat} {a : Act} {w : World} (S : (Nat → Bool) → (Nat → Value) → World → Prop) (D : Nat → Value → World → Prop)
    (hm : P.follows .mixedOrders = true) (hok : okL (dsts ops) = true) (hlow : ((List.range ops.size).all fun i => (waits ops i).all (· < i)) = true) (hS : S (fun _ => false) (held a ops) w.drew) (hs : ∀ i o, ops[i]? = some o → StepOk3 P ops Q a S D i o)
    (hend : ∀ vs w' done, (∀ j, j < ops.size → done j = true) → S done vs w' → (∀ j, j < ops.size → D j (vs j) w') → Q .normal (putL (dsts ops) a vs) w') : (Code.region id ops true).wp P Q a w := by
  have hin : ∀ i o, ops[i]? = some o → (i, o.dst) ∈ dsts ops := fun i o ho => by
    unfold dsts
    rw [List.mem_map]
    exact ⟨i, List.mem_range.2 (by by_cases e : i < ops.size; exact e; rw [Array.getElem?_eq_none (by omega)] at ho; cases ho), by rw [ho]; rfl⟩
  have hget : ∀ (listed : Array Bool) i j, listed.size = ops.size → i < ops.size → (listed.setIfInBounds i true).getD j false = if j = i then true else listed.getD j false := fun listed i j hsz hi => by
    rw [Array.getD_eq_getD_getElem?, Array.getD_eq_getD_getElem?, Array.getElem?_setIfInBounds]
    by_cases e : j = i
    · subst e; rw [if_pos rfl, if_pos (by omega), if_pos rfl]; rfl
    · rw [if_neg (fun h => e h.symm), if_neg e]
  refine wp_region_any hm (inv_any (fun listed a' w' => listed.size = ops.size ∧ (∀ j, j < ops.size → listed.getD j false = true → ∀ k ∈ waits ops j, listed.getD k false = true) ∧ ∃ vs, a' = putL (dsts ops) a vs ∧ S (fun j => listed.getD j false) vs w' ∧ (∀ j, j < ops.size → listed.getD j false = true → D j (vs j) w') ∧ ∀ j, j < ops.size → listed.getD j false = false → vs j = held a ops j) ?_ ?_ _ _ _ _ ?_ ?_)
  · rintro listed a' w' ⟨hsz, hcl, vs, rfl, hS, hD, hH⟩ i hi
    obtain ⟨h1, h2, o, ho, h3⟩ := ready_is hi
    have hst := hs i o ho
    have hno : listed.getD i false = false := by
      rw [Array.getD_eq_getD_getElem?, Array.getElem?_eq_getElem (by omega)] at h2 ⊢
      simpa using h2
    have hbound : ∀ j, listed.getD j false = true → j < ops.size := fun j hj => by
      by_cases e : j < ops.size
      · exact e
      · rw [Array.getD_eq_getD_getElem?, Array.getElem?_eq_none (by omega)] at hj; simp at hj
    refine wpOp_step ho (fun K hK => ?_)
    refine hst vs w' _ hS (fun j hj => ?_) (fun j hj => ?_) hH (fun j hj hl k hk => hcl j hj hl k (by simpa using hk)) hno K (fun v w2 a2 ha hS2 hD2 hk => hK _ _ ⟨by simpa using hsz, fun j hj hl k hk2 => ?_, upd vs i v, ?_, ?_, fun j hj hl => ?_, fun j hj hl => ?_⟩)
    · have hjl := waits_listed ho h3 (by simpa using hj)
      exact hD j (hbound j hjl) hjl
    · cases e : listed.getD j false with
      | false => rfl
      | true =>
        have := hcl j (hbound j e) e i (by simpa using hj)
        rw [hno] at this; cases this
    · rw [hget listed i _ hsz h1] at hl ⊢
      by_cases e : k = i
      · rw [if_pos e]
      · rw [if_neg e]
        by_cases e2 : j = i
        · subst e2; exact waits_listed ho h3 hk2
        · rw [if_neg e2] at hl; exact hcl j hj hl k hk2
    · rw [← ha]; exact putL_upd hok (hin i o ho) a vs v
    · have e : (fun j => (listed.setIfInBounds i true).getD j false) = fun j => if j = i then true else listed.getD j false := funext fun j => hget listed i j hsz h1
      show S (fun j => (listed.setIfInBounds i true).getD j false) (upd vs i v) w2
      rw [e]; exact hS2
    · rw [hget listed i _ hsz h1] at hl
      by_cases e : j = i
      · subst e; rw [show upd vs j v j = v from if_pos rfl]; exact hD2
      · rw [show upd vs i v j = vs j from if_neg e]
        rw [if_neg e] at hl
        exact hk j _ e hl (hD j hj hl)
    · rw [hget listed i _ hsz h1] at hl
      by_cases e : j = i
      · rw [if_pos e] at hl; cases hl
      · rw [if_neg e] at hl
        rw [show upd vs i v j = vs j from if_neg e]
        exact hH j hj hl
  · rintro listed a' w' ⟨hsz, hcl, vs, rfl, hS, hD, hH⟩ hr
    have ha := all_listed hlow hsz hr
    exact hend vs w' _ ha hS (fun j hj => hD j hj (ha j hj))
  · unfold undone
    have := List.length_filter_le (fun i => !(Array.replicate ops.size false).getD i true) (List.range ops.size)
    simpa using this
  · have h0 : ∀ j, (Array.replicate ops.size false).getD j false = false := fun j => by
      rw [Array.getD_eq_getD_getElem?, Array.getElem?_replicate]
      split <;> rfl
    refine ⟨by simp, fun j hj hl => (by rw [h0] at hl; cases hl), held a ops, ?_, ?_, fun j hj hl => (by rw [h0] at hl; cases hl), fun _ _ _ => rfl⟩
    · symm
      refine putL_same a _ _ (fun i t hm => ?_)
      unfold dsts at hm
      rw [List.mem_map] at hm
      obtain ⟨k, _, e⟩ := hm
      injection e with e1 e2
      subst e1
      unfold held; rw [e2]
    · have e : (fun j => (Array.replicate ops.size false).getD j false) = fun _ => false := funext h0
      show S (fun j => (Array.replicate ops.size false).getD j false) (held a ops) w.drew
      rw [e]; exact hS
/-- one operation: the goal of its step -/
def StepL3 (P : Program) (l : List Oper) (Q : Exit → Act → World → Prop) (ts : List Value) (df : List Deferred) (S : (Nat → Bool) → (Nat → Value) → World → Prop) (D : Nat → Value → World → Prop) (i : Nat) (o : Oper) : Prop :=
  ∀ vs w (done : Nat → Bool), S done vs w → (∀ j, (waits l.toArray i).contains j = true → D j (vs j) w) → (∀ j, (waits l.toArray j).contains i = true → done j = false) → (∀ j, j < l.length → done j = false → vs j = held ⟨ts.toArray, df⟩ l.toArray j) → (∀ j, j < l.length → done j = true → ∀ k, (waits l.toArray j).contains k = true → done k = true) → done i = false → ∀ K : Act → World → Prop,
    (∀ v w' a', (⟨(putT (dstsL 0 l) ts vs).toArray, df⟩ : Act).put o.dst v = a' → S (fun j => if j = i then true else done j) (upd vs i v) w' → D i v w' → (∀ j v', j ≠ i → done j = true → D j v' w → D j v' w') → K a' w') →
    if Region.wanted o (yielded l.toArray (putT (dstsL 0 l) ts vs).toArray) = true then Oper.wp P o ⟨(putT (dstsL 0 l) ts vs).toArray, df⟩ w K Q else K ((⟨(putT (dstsL 0 l) ts vs).toArray, df⟩ : Act).put o.dst undef) w
def StepsL3 (P : Program) (l : List Oper) (Q : Exit → Act → World → Prop) (ts : List Value) (df : List Deferred) (S : (Nat → Bool) → (Nat → Value) → World → Prop) (D : Nat → Value → World → Prop) : Nat → List Oper → Prop
  | _, [] => True
  | i, o :: r => StepL3 P l Q ts df S D i o ∧ StepsL3 P l Q ts df S D (i + 1) r
theorem StepsL3.get {P : Program} {l : List Oper} {Q : Exit → Act → World → Prop} {ts : List Value} {df : List Deferred} {S : (Nat → Bool) → (Nat → Value) → World → Prop} {D : Nat → Value → World → Prop} : ∀ (r : List Oper) (k : Nat), StepsL3 P l Q ts df S D k r → ∀ i o, r[i]? = some o → StepL3 P l Q ts df S D (i + k) o := by
  intro r
  induction r with
  | nil => intro k _ i o h; simp at h
  | cons x r ih =>
    intro k hs i o h
    cases i with
    | zero =>
      obtain rfl : x = o := by simpa using h
      rw [Nat.zero_add]; exact hs.1
    | succ i =>
      have := ih (k + 1) hs.2 i o (by simpa using h)
      rwa [show i + 1 + k = i + (k + 1) by omega]
/-- THE RULE: S is what holds of the world, by what has been done; D what an operation leaves in its slot -/
theorem wp_region_inv3 {P : Program} {l : List Oper} {Q : Exit → Act → World → Prop} {id : Nat} {ts : List Value} {df : List Deferred} {w : World} (S : (Nat → Bool) → (Nat → Value) → World → Prop) (D : Nat → Value → World → Prop)
    (hm : P.follows .mixedOrders = true) (hok : (okL (dstsL 0 l) && ((List.range l.length).all fun i => (waits l.toArray i).all (· < i))) = true) (hS : S (fun _ => false) (held ⟨ts.toArray, df⟩ l.toArray) w.drew) (hs : StepsL3 P l Q ts df S D 0 l)
    (hend : ∀ vs w' done, (∀ j, j < l.length → done j = true) → S done vs w' → (∀ j, j < l.length → D j (vs j) w') → Q .normal ⟨(putT (dstsL 0 l) ts vs).toArray, df⟩ w') : (Code.region id l.toArray true).wp P Q ⟨ts.toArray, df⟩ w := by
  rw [Bool.and_eq_true] at hok
  refine wp_region_inv30 S D hm (by rw [dsts_list]; exact hok.1) (by simpa using hok.2) hS (fun i o ho => ?_) (fun vs w' done h1 h2 h3 => ?_)
  · have := StepsL3.get l 0 hs i o (by simpa using ho)
    intro vs w done h1 h2 h3 h4 h5 h6 K hK
    rw [dsts_list, putL_list] at hK ⊢
    exact this vs w done h1 h2 h3 (fun j hj hd => h4 j (by simpa using hj) hd) (fun j hj hd => h5 j (by simpa using hj) hd) h6 K hK
  · rw [dsts_list, putL_list]
    exact hend vs w' done (fun j hj => h1 j (by simpa using hj)) h2 (fun j hj => h3 j (by simpa using hj))
end Go.Proofs.YthdjpmiohfaphaaGreatDoor.inv

/- The walk of 'some' of the statements of layer 5: a register that is made of numbers. It is valid. No condition. -/
namespace Go.Proofs.YthdjpmiohfaphaaGreatDoor.reg
open Go.RowKit lex aggs kit net deck

/-- a register is kept while another block is written, in which no text lies -/
theorem RegIn.other {W W' : World} {a : Option Addr} {N c b : Nat} {ps : List Pn} (h : RegIn W a N c ps) (hs : ∀ i s, W.cell? ⟨b, i, none⟩ ≠ some (.string s)) (hg : W.grownBy W' (some b)) : RegIn W' a N c ps := by
  refine { h with rin := ?_ }
  rcases h.rin with h1 | ⟨g, o, e, hl, hc⟩
  · exact .inl h1
  · refine .inr ⟨g, o, e, Nat.lt_of_lt_of_le hl hg.size, ?_⟩
    cases ps with
    | nil => intro i u hu; simp [flat] at hu
    | cons p r =>
      have hne : g ≠ b := by
        rintro rfl
        exact hs _ _ (cells_pn hc 0 (by simp)).1
      intro i u hu
      exact (World.cell?_of_block (a := ⟨g, o + i, none⟩) (hg.block g hl (by simpa using hne))).trans (hc i u hu)
theorem RegIn.far {W W' : World} {a la : Option Addr} {N c bd len cap : Nat} {ps : List Pn} (h : RegIn W a N c ps) (hd : IsDeck W bd la len cap) (hg : W.grownBy W' (some bd)) : RegIn W' a N c ps := by
  refine h.other (fun o s c0 => ?_) hg
  obtain ⟨k, s', -, -, -, hb⟩ := hd
  simp only [World.cell?, hb] at c0
  match o, c0 with
  | 0, c0 => simp at c0
  | 1, c0 => simp at c0
  | 2, c0 => simp at c0
  | o + 3, c0 => simp at c0
theorem RegIn.box {W W' : World} {a y : Option Addr} {N c b T m k : Nat} {ps : List Pn} (h : RegIn W a N c ps) (hb : W.heap[b]? = some (.cells #[.slice y m k] T (0, 0))) (hg : W.grownBy W' (some b)) : RegIn W' a N c ps := by
  refine h.other (fun o s c0 => ?_) hg
  simp only [World.cell?, hb] at c0
  match o, c0 with
  | 0, c0 => simp at c0
  | o + 1, c0 => simp at c0
theorem gb_of_below {W W' : World} (h : Below W.heap.size W W') (row : Option Nat) : W.grownBy W' row := ⟨h.os, h.tape, h.output, h.size, fun k hk _ => h.block k hk⟩
theorem add_ok {ps : List Pn} {p : Pn} (h : Ok ps) (hp : pnE p = 0) : Ok (addP ps p).1 ∧ (addP ps p).1.length ≤ ps.length + 1 := by
  by_cases e : (addP ps p).2 = 0
  · obtain ⟨-, -, -, -, h5, h6⟩ := addP_ok e
    exact ⟨by rw [h5]; exact h6, by rw [h5, ins_pos, List.length_append, List.length_cons, List.length_take, List.length_drop]; omega⟩
  · have : (addP ps p).1 = [] := by
      unfold addP at e ⊢
      rw [if_neg (by simp [chkP_zero.2 h]), if_neg (by simp [hp])] at e ⊢
      by_cases h3 : fnd (nmsP ps) p.nm = -1
      · rw [if_neg (by simp [h3])] at e ⊢
        by_cases h4 : 64 ≤ ps.length
        · rw [if_pos h4]
        · rw [if_neg h4] at e; exact absurd rfl e
      · rw [if_pos h3]
    rw [this]
    exact ⟨⟨Nat.zero_le _, (fun _ h => by cases h), List.Pairwise.nil⟩, Nat.zero_le _⟩
/-- what 'some' leaves -/
def SomePost (w0 w : World) (la : Option Addr) (len cap bd : Nat) (e : Ending) (w' : World) : Prop :=
  ∃ a N c ps, e = .returned (.agg #[.slice a N c]) ∧ RegIn w' a N c ps ∧ Ok ps ∧ ps.length ≤ 6 ∧ Game w0 w' bd la len cap ∧ w.grownBy w' (some bd)
/-- while somebody is added -/
def SAdd (w0 w : World) (la : Option Addr) (len cap bd n : Nat) (done : Nat → Bool) (vs : Nat → Value) (W : World) : Prop :=
  Game w0 W bd la len cap ∧ w.grownBy W (some bd) ∧ (done 8 = true → ∃ B a N c qs, vs 7 = .pointer (some ⟨B, 0, none⟩) ∧ W.heap[B]? = some (.cells #[.slice a N c] 25 (0, 0)) ∧ B ≠ bd ∧ w.heap.size ≤ B ∧ RegIn W a N c qs ∧ Ok qs ∧ qs.length ≤ n + 1)
theorem SAdd.step {w0 w W W' : World} {la : Option Addr} {len cap bd n : Nat} {done done' : Nat → Bool} {vs vs' : Nat → Value} (h : SAdd w0 w la len cap bd n done vs W) (g : Game w0 W' bd la len cap) (hg : W.grownBy W' (some bd)) (hd : done' 8 = true → done 8 = true) (hv : done 8 = true → vs' 7 = vs 7) : SAdd w0 w la len cap bd n done' vs' W' := by
  obtain ⟨h1, h2, h3⟩ := h
  refine ⟨g, gb_tr h2 hg, fun h8 => ?_⟩
  obtain ⟨B, a, N, c, qs, q1, q2, q3, q4, q5, q6, q7⟩ := h3 (hd h8)
  exact ⟨B, a, N, c, qs, by rw [hv (hd h8)]; exact q1, by rw [hg.block B (lt_of_block q2) (by simpa using q3)]; exact q2, q3, q4, q5.far h1.deck hg, q6, q7⟩
theorem SAdd.mark {w0 w W : World} {la : Option Addr} {len cap bd n : Nat} {done : Nat → Bool} {vs : Nat → Value} (h : SAdd w0 w la len cap bd n done vs W) (i : Nat) (v : Value) (h8 : i ≠ 8) (h7 : i ≠ 7) : SAdd w0 w la len cap bd n (fun j => if j = i then true else done j) (inv.upd vs i v) W :=
  h.step h.1 (gb_refl W _) (fun q => by simpa [h8.symm] using q) (fun _ => if_neg (fun e => h7 e.symm))
def DSm (bd : Nat) (a : Option Addr) (N c n z : Nat) : Nat → Value → World → Prop
  | 0, v, _ => v = .agg #[.slice a N c]
  | 1, v, _ => v = .pointer (some ⟨bd, 0, none⟩)
  | 2, v, _ => ∃ p : Pn, v = pnV p ∧ pnE p = 0 ∧ p.nm.size ≤ maxLen
  | 3, v, W => ∃ a' N' c' qs E, v = .tuple #[.agg #[.slice a' N' c'], .int .i64 E] ∧ RegIn W a' N' c' qs ∧ Ok qs ∧ qs.length ≤ n + 1
  | 4, v, W => ∃ a' N' c' qs E, v = .tuple #[.agg #[.slice a' N' c'], .int .i64 E] ∧ RegIn W a' N' c' qs ∧ Ok qs ∧ qs.length ≤ n + 1
  | 5, v, W => ∃ a' N' c' qs, v = .agg #[.slice a' N' c'] ∧ RegIn W a' N' c' qs ∧ Ok qs ∧ qs.length ≤ n + 1
  | 6, v, _ => ∃ E : Int, v = .int .i64 E
  | 7, v, W => ∃ B y0 y1 y2, v = .pointer (some ⟨B, 0, none⟩) ∧ W.heap[B]? = some (.cells #[.slice y0 y1 y2] 25 (0, 0)) ∧ B ≠ bd ∧ z ≤ B
  | 9, v, _ => ∃ E : Int, v = .int .i64 E
  | _, _, _ => True
theorem _root_.Go.World.grownBy.block_at {W W' : World} {row : Option Nat} {b : Nat} {o : Obj} (h : W.grownBy W' row) (hb : W.heap[b]? = some o) (hl : b < W.heap.size) (hne : some b ≠ row) : W'.heap[b]? = some o := by rw [h.block b hl hne]; exact hb
theorem DSm.kept {bd : Nat} {a la : Option Addr} {N c n z len cap : Nat} {W W' : World} (hd : IsDeck W bd la len cap) (hg : W.grownBy W' (some bd)) : ∀ j v, DSm bd a N c n z j v W → DSm bd a N c n z j v W'
  | 0, _, h | 1, _, h | 2, _, h | 6, _, h | 8, _, h | 9, _, h | _ + 10, _, h => h
  | 3, _, ⟨a', N', c', qs, E, h1, h2, h3⟩ => ⟨a', N', c', qs, E, h1, h2.far hd hg, h3⟩
  | 4, _, ⟨a', N', c', qs, E, h1, h2, h3⟩ => ⟨a', N', c', qs, E, h1, h2.far hd hg, h3⟩
  | 5, _, ⟨a', N', c', qs, h1, h2, h3⟩ => ⟨a', N', c', qs, h1, h2.far hd hg, h3⟩
  | 7, _, ⟨B, y0, y1, y2, h1, h2, h3⟩ => ⟨B, y0, y1, y2, h1, by rw [hg.block B (lt_of_block h2) (by simpa using h3.1)]; exact h2, h3⟩
theorem DSm.kept3 {bd b m k m' k' : Nat} {a y y' : Option Addr} {N c n z : Nat} {W W' : World} (hb : W.heap[b]? = some (.cells #[.slice y m k] 25 (0, 0))) (hb' : W'.heap[b]? = some (.cells #[.slice y' m' k'] 25 (0, 0))) (hg : W.grownBy W' (some b)) : ∀ j v, DSm bd a N c n z j v W → DSm bd a N c n z j v W'
  | 0, _, h | 1, _, h | 2, _, h | 6, _, h | 8, _, h | 9, _, h | _ + 10, _, h => h
  | 3, _, ⟨a', N', c', qs, E, h1, h2, h3⟩ => ⟨a', N', c', qs, E, h1, h2.box hb hg, h3⟩
  | 4, _, ⟨a', N', c', qs, E, h1, h2, h3⟩ => ⟨a', N', c', qs, E, h1, h2.box hb hg, h3⟩
  | 5, _, ⟨a', N', c', qs, h1, h2, h3⟩ => ⟨a', N', c', qs, h1, h2.box hb hg, h3⟩
  | 7, _, ⟨B, y0, y1, y2, h1, h2, h3⟩ => by
    by_cases e : B = b
    · subst e; exact ⟨B, _, _, _, h1, hb', h3⟩
    · exact ⟨B, y0, y1, y2, h1, by rw [hg.block B (lt_of_block h2) (by simpa using e)]; exact h2, h3⟩
set_option maxRecDepth 100000 in
set_option maxHeartbeats 4000000 in
theorem some_is {W0 w : World} {la : Option Addr} {len cap bd : Nat} {zs : List Int} (g : Game W0 w bd la len cap) (hr : IsRow .i64 W0 la len cap zs) :
    Calls Tryz.prog 7 #[.pointer (some ⟨bd, 0, none⟩)] w (SomePost W0 w la len cap bd) := by
  have HR0 := Lib.hid hr
  have hb0 := g.lt
  have hz := heap_alloc_new w (.cells #[.slice none 0 0] 25)
  have hz2 := heap_alloc_new (w.alloc (.cells #[.slice none 0 0] 25)) (.cells #[.slice none 0 0] 25)
  have hz1 : ((w.alloc (.cells #[.slice none 0 0] 25)).alloc (.cells #[.slice none 0 0] 25)).heap[w.heap.size]? = _ := ((below_box (w.alloc (.cells #[.slice none 0 0] 25)) (.cells #[.slice none 0 0] 25)).block w.heap.size (by simp)).trans hz
  have G1 := Lib.hid ((g.alloc (.cells #[.slice none 0 0] 25)).alloc (.cells #[.slice none 0 0] 25))
  have B1 := Lib.hid (grown_alloc (grown_alloc (gb_refl w (some bd)) (.cells #[.slice none 0 0] 25)) (.cells #[.slice none 0 0] 25))
  rw [World.size_alloc] at hz2
  obtain ⟨x, hx⟩ : ∃ x, w.heap.size = x := ⟨_, rfl⟩
  obtain ⟨W1, hW1⟩ : ∃ W, (w.alloc (.cells #[.slice none 0 0] 25)).alloc (.cells #[.slice none 0 0] 25) = W := ⟨_, rfl⟩
  rw [hW1] at hz1 hz2 G1 B1
  rw [hx] at hz1 hz2 hb0
  have HZ1 := Lib.hid hz1
  have HZ2 := Lib.hid hz2
  have hxb : x ≠ bd := by omega
  have hxb1 : x + 1 ≠ bd := by omega
  clear hr g hz hz1 hz2
  go_enter Tryz.func7, Tryz.ntmps7
  go_wp2_with fail
  refine (G1.out.next HR0.out 7 (by decide)).mono ?_; rintro e V1 ⟨k, rfl, k0, k1, gm, gb⟩
  rw [show max (7 : Int) 1 = 7 from rfl] at k1
  obtain ⟨k, rfl⟩ : ∃ k' : Nat, k = k' := ⟨k.toNat, by omega⟩
  have GV := Lib.hid gm
  have BV := Lib.hid (gb_tr B1.out gb)
  have Z1 := Lib.hid (gb.block_at HZ1.out (lt_of_block HZ1.out) (by simpa using hxb))
  have Z2 := Lib.hid (gb.block_at HZ2.out (lt_of_block HZ2.out) (by simpa using hxb1))
  clear gm gb k0
  go_wp2
  go_loopw [4] (fun i wr => ∃ (k : Nat) (a : Option Addr) (N c : Nat) (ps : List Pn), i = .int .i64 k ∧ k ≤ 6 ∧ Hid (Game W0 wr bd la len cap) ∧ Hid (w.grownBy wr (some bd)) ∧ Hid (wr.heap[x]? = some (.cells #[.slice none 0 0] 25 (0, 0))) ∧ Hid (wr.heap[x + 1]? = some (.cells #[.slice a N c] 25 (0, 0))) ∧ Hid (RegIn wr a N c ps) ∧ Hid (Ok ps) ∧ Hid (ps.length + k ≤ 6)) (fun i _ => (intOf i).toNat)
  case atStart => exact ⟨k, none, 0, 0, [], rfl, by omega, GV.out, BV.out, Z1.out, Z2.out, reg_nil _, ⟨Nat.zero_le _, (fun _ h => by cases h), List.Pairwise.nil⟩, by show 0 + k ≤ 6; omega⟩
  case round =>
    obtain ⟨k, a, N, c, ps, rfl, hk6, GX, GB, BX1, BX, REG, OKP, LN⟩ := hrel
    by_cases hk : 0 < k
    · have T1 : decide ((0 : Int) < (k : Int)) = true := decide_eq_true (by omega)
      have hwk : IntKind.i64.wrap ((k : Int) - 1) = ((k - 1 : Nat) : Int) := by rw [IntKind.wrap_i64]; omega
      have BXL := Lib.hid (lt_of_block BX.out)
      have BXN : Hid (some (x + 1) ≠ some bd) := by show _ ≠ _; simpa using hxb1
      have GD := Lib.hid GX.out.deck
      have HS0 : Hid (∀ yh, SAdd W0 wr la len cap bd ps.length (fun _ => false) yh wr.drew) := fun yh => ⟨GX.out.drew, gb_drew (gb_refl wr _), fun h => by cases h⟩
      go_wp2_with fail
      go_wp2
      refine inv.wp_region_inv3 (SAdd W0 wr la len cap bd ps.length) (DSm bd a N c ps.length wr.heap.size) (by kernel_rfl) (by kernel_rfl) (HS0.out _) ?steps ?rest
      case steps =>
        refine ⟨fun vs W done hS hD hno hold hcl hme K hK => ?_, fun vs W done hS hD hno hold hcl hme K hK => ?_, fun vs W done hS hD hno hold hcl hme K hK => ?_, fun vs W done hS hD hno hold hcl hme K hK => ?_, fun vs W done hS hD hno hold hcl hme K hK => ?_, fun vs W done hS hD hno hold hcl hme K hK => ?_, fun vs W done hS hD hno hold hcl hme K hK => ?_, fun vs W done hS hD hno hold hcl hme K hK => ?_, fun vs W done hS hD hno hold hcl hme K hK => ?_, fun vs W done hS hD hno hold hcl hme K hK => ?_, trivial⟩
        · clear hold; clear hcl; simp only [inv.dstsL, inv.putT, Nat.reduceAdd, List.set_cons_zero, List.set_cons_succ]
          have c0 := (cell_at (hS.2.1.block_at BX.out BXL.out BXN.out) 0).1
          go_simp
          exact hK _ _ _ (by simp only [inv.dstsL, inv.putT, Nat.reduceAdd, List.set_cons_zero, List.set_cons_succ]; (try rfl)) (hS.mark 0 _ (by decide) (by decide)) (rfl) (fun _ _ _ _ h => h)
        · clear hold; clear hcl; simp only [inv.dstsL, inv.putT, Nat.reduceAdd, List.set_cons_zero, List.set_cons_succ]
          go_simp
          exact hK _ _ _ (by simp only [inv.dstsL, inv.putT, Nat.reduceAdd, List.set_cons_zero, List.set_cons_succ]; (try rfl)) (hS.mark 1 _ (by decide) (by decide)) (rfl) (fun _ _ _ _ h => h)
        · clear hold; clear hcl; simp only [inv.dstsL, inv.putT, Nat.reduceAdd, List.set_cons_zero, List.set_cons_succ]
          have h1 : (vs 1) = .pointer (some ⟨bd, 0, none⟩) := hD 1 (by kernel_rfl)
          rw [h1]
          go_simp
          refine (person_is hS.1 HR0.out).mono ?_; rintro e W2 ⟨p, rfl, p0, p1, g2, gb2⟩
          exact hK _ _ _ (by simp only [inv.dstsL, inv.putT, Nat.reduceAdd, List.set_cons_zero, List.set_cons_succ, h1]; (try rfl)) (hS.step g2 gb2 (fun q => by simpa using q) (fun _ => rfl)) (⟨p, rfl, p0, p1⟩) (fun j v _ _ => (DSm.kept hS.1.deck gb2) j v)
        · clear hold; clear hcl; simp only [inv.dstsL, inv.putT, Nat.reduceAdd, List.set_cons_zero, List.set_cons_succ]
          have h0 : (vs 0) = .agg #[.slice a N c] := hD 0 (by kernel_rfl)
          have h2 : ∃ p : Pn, (vs 2) = pnV p ∧ pnE p = 0 ∧ p.nm.size ≤ maxLen := hD 2 (by kernel_rfl)
          obtain ⟨p, h2, p0, p1⟩ := h2
          rw [h0, h2]
          go_simp
          have hreg := REG.out.far GD.out hS.2.1
          refine (radd_is a N c ps p W hreg p1).mono ?_; rintro e W2 ⟨a', N', c', rfl, g2, b2⟩
          have ao := add_ok OKP.out p0
          exact hK _ _ _ (by simp only [inv.dstsL, inv.putT, Nat.reduceAdd, List.set_cons_zero, List.set_cons_succ, h0, h2]; (try rfl)) (hS.step (hS.1.by_below b2) (gb_of_below b2 _) (fun q => by simpa using q) (fun _ => rfl)) (⟨_, _, _, _, _, rfl, g2, ao.1, ao.2⟩) (fun j v _ _ => (DSm.kept hS.1.deck (gb_of_below b2 _)) j v)
        · clear hold; clear hcl; simp only [inv.dstsL, inv.putT, Nat.reduceAdd, List.set_cons_zero, List.set_cons_succ]
          have h3 : ∃ a' N' c' qs E, (vs 3) = .tuple #[.agg #[.slice a' N' c'], .int .i64 E] ∧ RegIn W a' N' c' qs ∧ Ok qs ∧ qs.length ≤ ps.length + 1 := hD 3 (by kernel_rfl)
          obtain ⟨a', N', c', qs, E, h3, r1, r2, r3⟩ := h3
          rw [h3]
          go_simp
          exact hK _ _ _ (by simp only [inv.dstsL, inv.putT, Nat.reduceAdd, List.set_cons_zero, List.set_cons_succ, h3]; (try rfl)) (hS.mark 4 _ (by decide) (by decide)) (⟨_, _, _, _, _, rfl, r1, r2, r3⟩) (fun _ _ _ _ h => h)
        · clear hold; clear hcl; simp only [inv.dstsL, inv.putT, Nat.reduceAdd, List.set_cons_zero, List.set_cons_succ]
          have h4 : ∃ a' N' c' qs E, (vs 4) = .tuple #[.agg #[.slice a' N' c'], .int .i64 E] ∧ RegIn W a' N' c' qs ∧ Ok qs ∧ qs.length ≤ ps.length + 1 := hD 4 (by kernel_rfl)
          obtain ⟨a', N', c', qs, E, h4, r1, r2, r3⟩ := h4
          rw [h4]
          go_simp
          exact hK _ _ _ (by simp only [inv.dstsL, inv.putT, Nat.reduceAdd, List.set_cons_zero, List.set_cons_succ, h4]; (try rfl)) (hS.mark 5 _ (by decide) (by decide)) (⟨_, _, _, _, rfl, r1, r2, r3⟩) (fun _ _ _ _ h => h)
        · clear hold; clear hcl; simp only [inv.dstsL, inv.putT, Nat.reduceAdd, List.set_cons_zero, List.set_cons_succ]
          have h4 : ∃ a' N' c' qs E, (vs 4) = .tuple #[.agg #[.slice a' N' c'], .int .i64 E] ∧ RegIn W a' N' c' qs ∧ Ok qs ∧ qs.length ≤ ps.length + 1 := hD 4 (by kernel_rfl)
          obtain ⟨a', N', c', qs, E, h4, r1, r2, r3⟩ := h4
          rw [h4]
          go_simp
          exact hK _ _ _ (by simp only [inv.dstsL, inv.putT, Nat.reduceAdd, List.set_cons_zero, List.set_cons_succ, h4]; (try rfl)) (hS.mark 6 _ (by decide) (by decide)) (⟨_, rfl⟩) (fun _ _ _ _ h => h)
        · clear hold; clear hcl; simp only [inv.dstsL, inv.putT, Nat.reduceAdd, List.set_cons_zero, List.set_cons_succ]
          have hne : W.heap.size ≠ bd := Nat.ne_of_gt hS.1.lt
          have d8 := hno 8 (by kernel_rfl)
          have bxx := below_box W (.cells #[.slice none 0 0] 25)
          have hnew := heap_alloc_new W (.cells #[.slice none 0 0] 25)
          go_simp
          exact hK _ _ _ (by simp only [inv.dstsL, inv.putT, Nat.reduceAdd, List.set_cons_zero, List.set_cons_succ]; (try rfl)) (hS.step (hS.1.by_below bxx) (gb_of_below bxx _) (fun q => by simpa using q) (fun q => by rw [d8] at q; cases q)) (⟨_, _, _, _, rfl, hnew, hne, hS.2.1.size⟩) (fun j v _ _ => (DSm.kept hS.1.deck (gb_of_below bxx _)) j v)
        · clear hold; clear hcl; simp only [inv.dstsL, inv.putT, Nat.reduceAdd, List.set_cons_zero, List.set_cons_succ]
          have h5 : ∃ a' N' c' qs, (vs 5) = .agg #[.slice a' N' c'] ∧ RegIn W a' N' c' qs ∧ Ok qs ∧ qs.length ≤ ps.length + 1 := hD 5 (by kernel_rfl)
          have h7 : ∃ B y0 y1 y2, (vs 7) = .pointer (some ⟨B, 0, none⟩) ∧ W.heap[B]? = some (.cells #[.slice y0 y1 y2] 25 (0, 0)) ∧ B ≠ bd ∧ wr.heap.size ≤ B := hD 7 (by kernel_rfl)
          obtain ⟨a', N', c', qs, h5, r1, r2, r3⟩ := h5
          obtain ⟨B, y0, y1, y2, h7, hb, hne, hwB⟩ := h7
          have HH7 := h7
          have GS : W.grownBy (W.setCell ⟨B, 0, none⟩ (.slice a' N' c')) (some B) := gb_set _ (gb_refl W (some B))
          obtain ⟨c0, f0⟩ := cell_at hb 0
          have hset := set_at (i := 0) (.slice a' N' c') hb
          rw [h5, h7]
          go_simp
          exact hK undef _ _ (by simp only [inv.dstsL, inv.putT, Nat.reduceAdd, List.set_cons_zero, List.set_cons_succ, h5, h7]; (try rfl)) (⟨hS.1.grown GS (fun e => by injection e with e; exact hne e.symm) (fun j hj => by cases hj; have := GX.out.mine; have := GX.out.lt; omega), hS.2.1.andThen GS (fun j hj => by cases hj; exact .inl hwB), fun _ => ⟨B, a', N', c', qs, HH7, hset, hne, hwB, r1.box hb GS, r2, r3⟩⟩) (by first | rfl | trivial) (fun j v _ _ h => DSm.kept3 hb hset GS j v h)
        · clear hold; clear hcl; simp only [inv.dstsL, inv.putT, Nat.reduceAdd, List.set_cons_zero, List.set_cons_succ]
          have h6 : ∃ E : Int, (vs 6) = .int .i64 E := hD 6 (by kernel_rfl)
          obtain ⟨E, h6⟩ := h6
          rw [h6]
          go_simp
          exact hK _ _ _ (by simp only [inv.dstsL, inv.putT, Nat.reduceAdd, List.set_cons_zero, List.set_cons_succ, h6]; (try rfl)) (hS.mark 9 _ (by decide) (by decide)) (⟨_, rfl⟩) (fun _ _ _ _ h => h)
      case rest =>
        intro vs W done hdone hS hD
        obtain ⟨g9, b9, h9⟩ := hS
        obtain ⟨B, a', N', c', qs, hp, hb9, hne9, hB9, r9, o9, l9⟩ := h9 (hdone 8 (by decide))
        obtain ⟨E, hE9⟩ : ∃ E : Int, vs 9 = .int .i64 E := hD 9 (by decide)
        simp only [inv.dstsL, inv.putT, Nat.reduceAdd, List.set_cons_zero, List.set_cons_succ]
        rw [hp, hE9]
        have Y1 := Lib.hid (b9.block_at BX1.out (lt_of_block BX1.out) (by simpa using hxb))
        have Y2 := Lib.hid (b9.block_at BX.out (lt_of_block BX.out) (by simpa using hxb1))
        have GB9 := Lib.hid (gb_tr GB.out b9)
        have GX9 := Lib.hid g9
        have HB9 := Lib.hid hb9
        have R0 := Lib.hid (REG.out.far GX.out.deck b9)
        have R9 := Lib.hid r9
        have O9 := Lib.hid o9
        have L9 := Lib.hid l9
        generalize vs 0 = y0, vs 1 = y1, vs 2 = y2, vs 3 = y3, vs 4 = y4, vs 5 = y5, vs 6 = y6 at *
        clear hD hdone h9 hp hE9 g9 b9 hb9 r9 o9 l9 HS0 BXL BXN GD
        by_cases e0 : E = 0
        · subst e0
          obtain ⟨c0, -⟩ := cell_at HB9.out 0
          obtain ⟨d0, f0⟩ := cell_at Y2.out 0
          have hset := set_at (i := 0) (.slice a' N' c') Y2.out
          have gs : W.grownBy (W.setCell ⟨x + 1, 0, none⟩ (.slice a' N' c')) (some (x + 1)) := gb_set _ (gb_refl W (some (x + 1)))
          have G10 := Lib.hid (GX9.out.grown gs (by simpa using fun e => hxb1 e.symm) (fun j hj => by cases hj; have := GX9.out.mine; omega))
          have B10 : Hid (w.grownBy (W.setCell ⟨x + 1, 0, none⟩ (.slice a' N' c')) (some bd)) := GB9.out.andThen gs (fun j hj => by cases hj; exact .inl (by omega))
          have R10 := Lib.hid (R9.out.box Y2.out gs)
          have Y10 := Lib.hid (gs.block_at Y1.out (lt_of_block Y1.out) (by simp))
          have S10 := Lib.hid hset
          clear hset gs
          go_wp2
          go_roundw
          case rel => exact ⟨k - 1, a', N', c', qs, by go_num, by omega, G10, B10, Y10, S10, R10, O9, by show _ ≤ _; have := LN.out; have := L9.out; omega⟩
          case measure => simp [intOf]; omega
        · have TE : (E == 0) = false := beq_eq_false_iff_ne.2 e0
          clear e0
          go_wp2
          go_roundw
          case rel => exact ⟨k - 1, a, N, c, ps, by go_num, by omega, GX9, GB9, Y1, Y2, R0, OKP, by show _ ≤ _; have := LN.out; omega⟩
          case measure => simp [intOf]; omega
    · obtain rfl : k = 0 := by omega
      have T1 : decide ((0 : Int) < ((0 : Nat) : Int)) = false := rfl
      obtain ⟨c0, -⟩ := cell_at BX.out 0
      obtain ⟨d0, f0⟩ := cell_at BX1.out 0
      have e1 := set_at (i := 0) (.slice a N c) BX1.out
      have p0 := (cell_at e1 0).1
      have gs : wr.grownBy (wr.setCell ⟨x, 0, none⟩ (.slice a N c)) (some x) := gb_set _ (gb_refl wr (some x))
      have G9 := Lib.hid (GX.out.grown gs (by simpa using fun e => hxb e.symm) (fun j hj => by cases hj; have := GX.out.mine; omega))
      have B9 : Hid (w.grownBy (wr.setCell ⟨x, 0, none⟩ (.slice a N c)) (some bd)) := GB.out.andThen gs (fun j hj => by cases hj; exact .inl (by omega))
      have R9 := Lib.hid (REG.out.box BX1.out gs)
      clear e1 gs
      go_wp2
      exact bodyPost_ret (v := .agg #[.slice a N c]) (by simp [results, Tryz.results7, go_sem, p0]) rfl ⟨_, _, _, _, rfl, R9.out, OKP.out, by have := LN.out; omega, G9.out, B9.out⟩
end Go.Proofs.YthdjpmiohfaphaaGreatDoor.reg

/- The walks of layer 5's program: a line more. Condition: the tables hold what their texts lay. -/
namespace Go.Proofs.YthdjpmiohfaphaaGreatDoor.reg
open Go.RowKit lex aggs kit net strs cal deck

/-- what a line makes of a register -/
def lineP (ps : List Pn) (ws : List (List UInt8)) : List Pn × Int := if skipB ws = true then (ps, 0) else if perB ws = true then addP ps (perV ws) else ([], 2)
theorem skN_I64 (l : List UInt8) : I64 (skN l : Int) := by have := skN_le l; exact ⟨by omega, by omega⟩
theorem RegIn.set {W : World} {a y : Option Addr} {N c b T m k : Nat} {ps : List Pn} {v : Value} (h : RegIn W a N c ps) (hb : W.heap[b]? = some (.cells #[.slice y m k] T (0, 0))) : RegIn (W.setCell ⟨b, 0, none⟩ v) a N c ps :=
  h.box hb (gb_set v (gb_refl W (some b)))
set_option maxRecDepth 100000 in
set_option maxHeartbeats 4000000 in
theorem addLine_is (a : Option Addr) (N c : Nat) (ps : List Pn) (ws : List (List UInt8)) (v : Value) (base : Nat) (w : World) (H : RTabs w) (h : RegIn w a N c ps) (hw : SkI ps) (hv : StrsAt w base v ws) (hg : ∀ s ∈ ws, lex.Good s) (hl : ∀ s ∈ ws, s.length < 4294967281) :
    Calls Tryz.prog 37 #[.agg #[.slice a N c], v] w (RegPost (lineP ps ws).1 (lineP ps ws).2 w) := by
  obtain ⟨x, hxw⟩ : ∃ x, w.heap.size = x := ⟨_, rfl⟩
  have bx := below_box w (.cells #[.slice a N c] 25)
  have by_ := below_box (w.alloc (.cells #[.slice a N c] 25)) (.cells #[.slice none 0 0] 25)
  have BX := bx.trans (by_.mono bx.size)
  have hx0 := by_.cell (p := ⟨w.heap.size, 0, none⟩) (by simp)
  rw [show (w.alloc (.cells #[.slice a N c] 25)).cell? ⟨w.heap.size, 0, none⟩ = some (.slice a N c) from (cell_atR (heap_alloc_new w _) 0).1] at hx0
  have hx1 := heap_alloc_new (w.alloc (.cells #[.slice a N c] 25)) (.cells #[.slice none 0 0] 25)
  have hs1 : ((w.alloc (.cells #[.slice a N c] 25)).alloc (.cells #[.slice none 0 0] 25)).heap.size = x + 2 := by rw [← hxw]; simp
  have hsz : (w.alloc (.cells #[.slice a N c] 25)).heap.size = x + 1 := by rw [← hxw]; simp
  obtain ⟨W1, hW1⟩ : ∃ W, (w.alloc (.cells #[.slice a N c] 25)).alloc (.cells #[.slice none 0 0] 25) = W := ⟨_, rfl⟩
  rw [hW1] at hx0 hx1 hs1 BX
  rw [hsz] at hx1
  rw [hxw] at hx0 BX
  replace BX := Lib.hid BX
  have X0 : Hid (∀ W, Below (x + 2) W1 W → W.cell? ⟨x, 0, none⟩ = some (.slice a N c)) := fun W b => by rw [b.cell (p := ⟨x, 0, none⟩) (by show x < x + 2; omega)]; exact hx0
  have X1 : Hid (∀ W, Below (x + 2) W1 W → W.heap[x + 1]? = some (.cells #[.slice none 0 0] 25 (0, 0))) := fun W b => blk b (by omega) hx1
  have RI : Hid (∀ W, Below (x + 2) W1 W → RegIn W a N c ps) := fun W b => h.below (by have := BX.out.trans (b.mono (by omega)); rw [hxw]; exact this)
  have HT : Hid (∀ W, Below (x + 2) W1 W → RTabs W) := fun W b => H.below (by have := BX.out.trans (b.mono (by omega)); rw [hxw]; exact this)
  have HS1 := Lib.hid hs1
  have HWD := Lib.hid hw
  have c0 := X0.out W1 (Below.refl _ _)
  have z0 := (cell_atR hx1 0).2
  have d0 := (cell_atR hx1 0).1
  clear bx by_ hx0 hs1
  cases ws with
  | nil =>
    have hE : lineP ps [] = (ps, 0) := rfl
    rw [hE]
    dsimp only
    obtain ⟨a0, c', rfl, -⟩ := hv.length
    clear h H hv hg hl hw hE
    go_enter Tryz.func37, Tryz.ntmps37
    go_wp2_with fail
    (try rw [hsz])
    (try rw [hW1])
    (try rw [hxw])
    clear hsz hW1
    have e1 := set_at (i := 0) (.slice a N c) (hx1)
    have p0 := (cell_atR e1 0).1
    have bz := (BX.out.trans ((Below.refl (x + 2) W1).mono (by omega))).setCell (p := ⟨x + 1, 0, none⟩) (by show x ≤ x + 1; omega) (.slice a N c)
    have BZ := Lib.hid bz
    clear bz e1
    go_wp2
    exact bodyPost_ret (v := .tuple #[.agg #[.slice a N c], .int .i64 0]) (by simp [results, Tryz.results37, go_sem, p0]) rfl ⟨_, _, _, rfl, (RI.out W1 (Below.refl _ _)).set (X1.out W1 (Below.refl _ _)), by first | exact BZ.out | (rw [hxw]; exact BZ.out)⟩
  | cons s0 t =>
    rcases hv.shape with ⟨_, e⟩ | ⟨g, cc, e, hbg, hgl, hlen, hcap, hcell⟩
    · cases e
    · subst e
      have w0 := hcell 0 (by simp)
      rw [List.getElem_cons_zero] at w0
      have HW : WIn w g 0 (s0 :: t) := fun i hi => by rw [Nat.zero_add]; exact hcell i hi
      obtain ⟨hs0, -⟩ := hg s0 List.mem_cons_self
      obtain ⟨z, hzz⟩ : ∃ z, bs s0 = z := ⟨_, rfl⟩
      rw [hzz] at w0
      have hzd : z.data.toList = s0 := by rw [← hzz, bs_data]
      have Z0 : 0 < z.size := by rw [← hzz, bs_size]; exact List.length_pos_iff.2 hs0
      have hz0 : s0.head? = some z[0] := by
        have e1 : s0[0]? = some z[0] := by subst hzd; rw [List.getElem?_eq_getElem (by simpa using Z0)]; congr 1
        rw [← e1]; cases s0 <;> rfl
      have hsk : skipB (s0 :: t) = (z[0] == 35) := by
        show (false || (s0.head? == some 35)) = _
        rw [hz0]; rfl
      rw [hxw] at hgl
      have bw1 : Below x w W1 := BX.out
      have w1 : W1.cell? ⟨g, 0, none⟩ = some (.string z) := by rw [bw1.cell (p := ⟨g, 0, none⟩) hgl]; exact w0
      have hn : 0 < (s0 :: t).length := by simp
      by_cases q : z[0] = 35
      · have e1 : skipB (s0 :: t) = true := by rw [hsk, q]; rfl
        have hE : lineP ps (s0 :: t) = (ps, 0) := by unfold lineP; rw [if_pos e1]
        rw [hE]
        dsimp only
        have T1 : ((z[0].toNat : Int) == 35) = true := by rw [q]; rfl
        obtain ⟨n, hnn⟩ : ∃ n, (s0 :: t).length = n := ⟨_, rfl⟩
        rw [hnn] at hn ⊢
        have T0 : ((n : Int) == 0) = false := by rw [beq_eq_false_iff_ne]; omega
        clear h H hv hg hl hw hE hcell hzz hzd hz0 hsk e1 q HW w0 bw1
        go_enter Tryz.func37, Tryz.ntmps37
        go_wp2_with fail
        (try rw [hsz])
        (try rw [hW1])
        (try rw [hxw])
        clear hsz hW1
        have e1 := set_at (i := 0) (.slice a N c) (hx1)
        have p0 := (cell_atR e1 0).1
        have bz := (BX.out.trans ((Below.refl (x + 2) W1).mono (by omega))).setCell (p := ⟨x + 1, 0, none⟩) (by show x ≤ x + 1; omega) (.slice a N c)
        have BZ := Lib.hid bz
        clear bz e1
        go_wp2
        exact bodyPost_ret (v := .tuple #[.agg #[.slice a N c], .int .i64 0]) (by simp [results, Tryz.results37, go_sem, p0]) rfl ⟨_, _, _, rfl, (RI.out W1 (Below.refl _ _)).set (X1.out W1 (Below.refl _ _)), by first | exact BZ.out | (rw [hxw]; exact BZ.out)⟩
      · have e1 : skipB (s0 :: t) = false := by rw [hsk]; exact beq_eq_false_iff_ne.2 q
        have hE : lineP ps (s0 :: t) = if perB (s0 :: t) = true then addP ps (perV (s0 :: t)) else ([], 2) := by unfold lineP; rw [if_neg (by rw [e1]; decide)]
        rw [hE]
        have T1 : ((z[0].toNat : Int) == 35) = false := by
          rw [beq_eq_false_iff_ne]; intro k
          exact q (UInt8.toNat_inj.1 (by have : z[0].toNat = 35 := by omega
                                         rw [this]; rfl))
        have PO := Lib.hid (personOf_is (s0 :: t) g cc W1 (HT.out W1 (Below.refl _ _)) (HW.below bw1 hgl) (by rw [HS1.out]; omega) hlen hl)
        have hl1 : (at_ (s0 :: t) 1).length < 4294967281 := by
          unfold at_
          rw [List.getD_eq_getElem?_getD]
          cases e : (s0 :: t)[1]? with
          | none => decide
          | some y => exact hl y (List.mem_of_getElem? e)
        unfold perR at PO
        generalize s0 :: t = ws at *
        obtain ⟨n, hnn⟩ : ∃ n, ws.length = n := ⟨_, rfl⟩
        rw [hnn] at hn PO ⊢
        have T0 : ((n : Int) == 0) = false := by rw [beq_eq_false_iff_ne]; omega
        clear h H hv hg hl hw hE hcell hzz hzd hz0 hsk e1 q HW w0 bw1
        by_cases hB : perB ws = true
        · rw [hB] at PO
          rw [if_pos hB]
          rw [if_pos rfl] at PO
          obtain ⟨p, hp⟩ : ∃ p, perV ws = p := ⟨_, rfl⟩
          have hpn : p.nm.size ≤ maxLen := by rw [← hp]; show (bs (at_ ws 1)).size ≤ _; rw [bs_size]; unfold maxLen; omega
          have hpk : I64 p.sk := by rw [← hp]; exact skN_I64 _
          rw [hp] at PO ⊢
          obtain ⟨nm, co, sk, fr, un⟩ := p
          unfold pnV at PO
          dsimp only at PO
          have AD := Lib.hid (fun W b => add_is a N c ps ⟨nm, co, sk, fr, un⟩ W (RI.out W b) (HT.out W b).ct.tabs.cls HWD.out hpn hpk)
          unfold pnV at AD
          dsimp only at AD
          obtain ⟨⟨R1, R2⟩, hR⟩ : ∃ R, addP ps ⟨nm, co, sk, fr, un⟩ = R := ⟨_, rfl⟩
          rw [hR] at AD ⊢
          dsimp only at AD ⊢
          clear hp hB hR hl1 hpn hpk
          go_enter Tryz.func37, Tryz.ntmps37
          go_wp2_with fail
          (try rw [hsz])
          (try rw [hW1])
          (try rw [hxw])
          clear hsz hW1 w1
          refine PO.out.mono ?_; rintro e w2 ⟨rfl, b2⟩
          have B2 : Hid (Below (x + 2) W1 w2) := b2.mono (by rw [HS1.out]; omega)
          have PT := Lib.hid (PnAt.new w2 ⟨nm, co, sk, fr, un⟩ 27)
          have B3 : Hid (Below (x + 2) W1 (w2.alloc (.cells #[.string nm, .int .i64 co, .int .i64 sk, .int .i64 fr, .int .i64 un] 27))) := B2.out.alloc (by have := B2.out.size; have := HS1.out; omega) _
          have c3 := X0.out _ B3.out
          obtain ⟨q0, q1, q2, q3, q4, -⟩ := PT.out
          dsimp only at q0 q1 q2 q3 q4
          clear b2 c0 d0 z0
          go_wp2_with fail
          refine (AD.out _ B3.out).mono ?_; rintro e w4 ⟨a', N', c', rfl, R4, b4⟩
          have B4 : Hid (Below (x + 2) W1 w4) := B3.out.trans (b4.mono (by have := B3.out.size; have := HS1.out; omega))
          have hx4 := X1.out _ B4.out
          have z4 := (cell_atR hx4 0).2
          have d4 := (cell_atR hx4 0).1
          have RR := Lib.hid R4
          clear b4 R4 c3 q0 q1 q2 q3 q4
          have e1 := set_at (i := 0) (.slice a' N' c') (hx4)
          have p0 := (cell_atR e1 0).1
          have bz := (BX.out.trans (B4.out.mono (by omega))).setCell (p := ⟨x + 1, 0, none⟩) (by show x ≤ x + 1; omega) (.slice a' N' c')
          have BZ := Lib.hid bz
          clear bz e1
          go_wp2
          exact bodyPost_ret (v := .tuple #[.agg #[.slice a' N' c'], .int .i64 R2]) (by simp [results, Tryz.results37, go_sem, p0]) rfl ⟨_, _, _, rfl, RR.out.set (X1.out w4 B4.out), by first | exact BZ.out | (rw [hxw]; exact BZ.out)⟩
        · have hB' : perB ws = false := by cases e : perB ws with
            | true => exact absurd e hB
            | false => rfl
          rw [hB'] at PO
          rw [if_neg hB]
          rw [if_neg (by decide)] at PO
          unfold pnV zP at PO
          dsimp only at PO ⊢
          clear hB hB' hl1
          go_enter Tryz.func37, Tryz.ntmps37
          go_wp2_with fail
          (try rw [hsz])
          (try rw [hW1])
          (try rw [hxw])
          clear hsz hW1 w1
          refine PO.out.mono ?_; rintro e w2 ⟨rfl, b2⟩
          have B2 : Hid (Below (x + 2) W1 w2) := b2.mono (by rw [HS1.out]; omega)
          have B3 : Hid (Below (x + 2) W1 (w2.alloc (.cells #[.string ⟨#[]⟩, .int .i64 0, .int .i64 0, .int .i64 0, .int .i64 0] 27))) := B2.out.alloc (by have := B2.out.size; have := HS1.out; omega) _
          have hx3 := X1.out _ B3.out
          have z3 := (cell_atR hx3 0).2
          have d3 := (cell_atR hx3 0).1
          clear b2 c0 d0 z0
          go_wp2_with fail
          have e1 := set_at (i := 0) (.slice none 0 0) (hx3)
          have p0 := (cell_atR e1 0).1
          have bz := (BX.out.trans (B3.out.mono (by omega))).setCell (p := ⟨x + 1, 0, none⟩) (by show x ≤ x + 1; omega) (.slice none 0 0)
          have BZ := Lib.hid bz
          clear bz e1
          go_wp2
          exact bodyPost_ret (v := .tuple #[.agg #[.slice none 0 0], .int .i64 2]) (by simp [results, Tryz.results37, go_sem, p0]) rfl ⟨_, _, _, rfl, reg_nil _, by first | exact BZ.out | (rw [hxw]; exact BZ.out)⟩
end Go.Proofs.YthdjpmiohfaphaaGreatDoor.reg

/- The walks of layer 5's program: Parse. Condition: the tables hold what their texts lay. -/
namespace Go.Proofs.YthdjpmiohfaphaaGreatDoor.reg
open Go.RowKit lex aggs kit net strs cal deck

theorem linesF_wsumR (r : List UInt8) : ∀ cur L, linesF cur r = some L → wsum L = cur.length + r.length := by
  induction r with
  | nil =>
    intro cur L h
    unfold linesF at h
    split at h
    · rename_i e
      injection h with h
      subst h e; rfl
    · cases h
  | cons c r ih =>
    intro cur L h
    unfold linesF at h
    split at h
    · obtain ⟨L', h1, h2⟩ := Option.map_eq_some_iff.1 h
      subst h2
      have := ih [] L' h1
      rw [wsum_cons, this]; simp; omega
    · split at h
      · have := ih _ L h
        rw [this]; simp; omega
      · cases h
theorem lines_wsumR {s : List UInt8} {L : List (List UInt8)} (h : lines s = some L) : wsum L = s.length ∧ s.length ≤ 65536 := by
  unfold lines at h
  split at h
  · cases h
  · have := linesF_wsumR s [] L h
    simp at this
    exact ⟨this, by omega⟩
theorem mem_wsumR {x : List UInt8} {L : List (List UInt8)} (h : x ∈ L) : x.length + 1 ≤ wsum L := by
  induction L with
  | nil => cases h
  | cons y r ih =>
    rw [wsum_cons]
    rcases List.mem_cons.1 h with rfl | h
    · omega
    · have := ih h; omega
theorem lineP_ok {st : List Pn} {ws : List (List UInt8)} (h : Ok st) (e : (lineP st ws).2 = 0) : Ok (lineP st ws).1 := by
  unfold lineP at e ⊢
  by_cases h1 : skipB ws = true
  · rw [if_pos h1]; exact h
  · rw [if_neg h1] at e ⊢
    by_cases h2 : perB ws = true
    · rw [if_pos h2] at e ⊢
      obtain ⟨-, -, -, -, h5, h6⟩ := addP_ok e
      rw [h5]; exact h6
    · rw [if_neg h2] at e; cases e
theorem runP_line (i : Nat) (st : List Pn) (ws : List (List UInt8)) (r : List (List (List UInt8))) : runP i st (ws :: r) = if (lineP st ws).2 = 0 then runP (i + 1) (lineP st ws).1 r else ([], i + 1, (lineP st ws).2) := by
  unfold lineP
  rw [runP]
  by_cases h1 : skipB ws = true
  · rw [if_pos h1, if_pos h1, if_pos rfl]
  · rw [if_neg h1, if_neg h1]
    by_cases h2 : perB ws = true
    · rw [if_pos h2, if_pos h2]
    · rw [if_neg h2, if_neg h2, if_neg (by decide)]
/-- where the reading stands -/
def AtR (L : List (List UInt8)) (j : Nat) (st : List Pn) : Prop := runP 0 [] (L.map words) = runP j st ((L.drop j).map words)
theorem AtR.step {L : List (List UInt8)} {j : Nat} {st : List Pn} (h : AtR L j st) (hj : j < L.length) : runP 0 [] (L.map words) = if (lineP st (words L[j])).2 = 0 then runP (j + 1) (lineP st (words L[j])).1 ((L.drop (j + 1)).map words) else ([], j + 1, (lineP st (words L[j])).2) := by
  unfold AtR at h
  rw [h, List.drop_eq_getElem_cons hj, List.map_cons, runP_line]
theorem StrsAt.box {W W' : World} {base B y2 y3 : Nat} {y1 : Option Addr} {v : Value} {xs : List (List UInt8)} (h : StrsAt W base v xs) (hb : W.heap[B]? = some (.cells #[.slice y1 y2 y3] 25 (0, 0))) (hg : W.grownBy W' (some B)) : StrsAt W' base v xs := by
  obtain ⟨h1, h2⟩ := h
  refine ⟨h1, ?_⟩
  rcases h2 with h2 | ⟨g, cap, cur, rfl, hb2, hh, hr⟩
  · exact .inl h2
  · refine .inr ⟨g, cap, cur, rfl, hb2, ?_, hr⟩
    rw [hg.block g (lt_of_block hh) (fun e => by
      injection e with e
      subst e
      rw [hh] at hb
      injection hb with hb
      injection hb with _ hb _
      exact absurd hb (by decide))]
    exact hh
/-- a text's register -/
def ParseP (s : List UInt8) (w : World) (e : Ending) (w' : World) : Prop :=
  ∃ a N c, e = .returned (.tuple #[.agg #[.slice a N c], .int .i64 ((parseP s).2.1 : Int), .int .i64 (parseP s).2.2]) ∧ RegIn w' a N c (parseP s).1 ∧ Below w.heap.size w w'
/-- while a line is read -/
def SLn (w : World) (qs : List Pn) (done : Nat → Bool) (vs : Nat → Value) (W : World) : Prop :=
  Below w.heap.size w W ∧ (done 8 = true → ∃ B a N c, vs 7 = .pointer (some ⟨B, 0, none⟩) ∧ W.heap[B]? = some (.cells #[.slice a N c] 25 (0, 0)) ∧ w.heap.size ≤ B ∧ RegIn W a N c qs)
theorem SLn.step {w W W' : World} {qs : List Pn} {done done' : Nat → Bool} {vs vs' : Nat → Value} (h : SLn w qs done vs W) (hb : Below W.heap.size W W') (hd : done' 8 = true → done 8 = true) (hv : done 8 = true → vs' 7 = vs 7) : SLn w qs done' vs' W' := by
  obtain ⟨h1, h2⟩ := h
  refine ⟨h1.trans (hb.mono h1.size), fun h8 => ?_⟩
  obtain ⟨B, a, N, c, q1, q2, q3, q4⟩ := h2 (hd h8)
  exact ⟨B, a, N, c, by rw [hv (hd h8)]; exact q1, blk hb (lt_of_block q2) q2, q3, q4.below hb⟩
theorem SLn.mark {w W : World} {qs : List Pn} {done : Nat → Bool} {vs : Nat → Value} (h : SLn w qs done vs W) (i : Nat) (v : Value) (h8 : i ≠ 8) (h7 : i ≠ 7) : SLn w qs (fun j => if j = i then true else done j) (inv.upd vs i v) W :=
  h.step (Below.refl _ _) (fun q => by simpa [h8.symm] using q) (fun _ => if_neg (fun e => h7 e.symm))
def DPa (l : List UInt8) (ws : List (List UInt8)) (qs : List Pn) (a : Option Addr) (N c z : Nat) (E : Int) : Nat → Value → World → Prop
  | 0, v, _ => v = .agg #[.slice a N c]
  | 1, v, _ => v = .string (bs l)
  | 2, v, W => StrsAt W z v ws
  | 3, v, W => ∃ a' N' c', v = .tuple #[.agg #[.slice a' N' c'], .int .i64 E] ∧ RegIn W a' N' c' qs
  | 4, v, W => ∃ a' N' c', v = .tuple #[.agg #[.slice a' N' c'], .int .i64 E] ∧ RegIn W a' N' c' qs
  | 5, v, W => ∃ a' N' c', v = .agg #[.slice a' N' c'] ∧ RegIn W a' N' c' qs
  | 6, v, _ => v = .int .i64 E
  | 7, v, W => ∃ B y0 y1 y2, v = .pointer (some ⟨B, 0, none⟩) ∧ W.heap[B]? = some (.cells #[.slice y0 y1 y2] 25 (0, 0)) ∧ z ≤ B
  | 9, v, _ => v = .int .i64 E
  | _, _, _ => True
theorem DPa.kept {l : List UInt8} {ws : List (List UInt8)} {qs : List Pn} {a : Option Addr} {N c z : Nat} {E : Int} {W W' : World} (hb : Below W.heap.size W W') : ∀ j v, DPa l ws qs a N c z E j v W → DPa l ws qs a N c z E j v W'
  | 0, _, h | 1, _, h | 6, _, h | 8, _, h | 9, _, h | _ + 10, _, h => h
  | 2, _, h => StrsAt.below h hb
  | 3, _, ⟨a', N', c', h1, h2⟩ => ⟨a', N', c', h1, h2.below hb⟩
  | 4, _, ⟨a', N', c', h1, h2⟩ => ⟨a', N', c', h1, h2.below hb⟩
  | 5, _, ⟨a', N', c', h1, h2⟩ => ⟨a', N', c', h1, h2.below hb⟩
  | 7, _, ⟨B, y0, y1, y2, h1, h2, h3⟩ => ⟨B, y0, y1, y2, h1, blk hb (lt_of_block h2) h2, h3⟩
theorem DPa.kept3 {l : List UInt8} {ws : List (List UInt8)} {qs : List Pn} {a : Option Addr} {N c z : Nat} {E : Int} {b m k m' k' : Nat} {y y' : Option Addr} {W W' : World} (hb : W.heap[b]? = some (.cells #[.slice y m k] 25 (0, 0))) (hb' : W'.heap[b]? = some (.cells #[.slice y' m' k'] 25 (0, 0))) (hg : W.grownBy W' (some b)) : ∀ j v, DPa l ws qs a N c z E j v W → DPa l ws qs a N c z E j v W'
  | 0, _, h | 1, _, h | 6, _, h | 8, _, h | 9, _, h | _ + 10, _, h => h
  | 2, _, h => StrsAt.box h hb hg
  | 3, _, ⟨a', N', c', h1, h2⟩ => ⟨a', N', c', h1, h2.box hb hg⟩
  | 4, _, ⟨a', N', c', h1, h2⟩ => ⟨a', N', c', h1, h2.box hb hg⟩
  | 5, _, ⟨a', N', c', h1, h2⟩ => ⟨a', N', c', h1, h2.box hb hg⟩
  | 7, _, ⟨B, y0, y1, y2, h1, h2, h3⟩ => by
    by_cases e : B = b
    · subst e; exact ⟨B, _, _, _, h1, hb', h3⟩
    · exact ⟨B, y0, y1, y2, h1, by rw [hg.block B (lt_of_block h2) (by simpa using e)]; exact h2, h3⟩
set_option maxRecDepth 100000 in
set_option maxHeartbeats 8000000 in
theorem parse_is (s : List UInt8) (w : World) (H : RTabs w) (hs : s.length ≤ 1099511627776) :
    Calls Tryz.prog 23 #[.string (bs s)] w (ParseP s w) := by
  obtain ⟨r, hr⟩ : ∃ r, lines s = r := ⟨_, rfl⟩
  have BX0 := Lib.hid (below_box w (.cells #[.slice none 0 0] 25))
  have HB : Hid ((w.alloc (.cells #[.slice none 0 0] 25)).heap[w.heap.size]? = some (.cells #[.slice none 0 0] 25 (0, 0))) := heap_alloc_new _ _
  have HH := Lib.hid (fun W (b : Below w.heap.size w W) => H.below b)
  have LN := Lib.hid (lines_bs s r hr _ (HH.out _ BX0.out).ct.tabs.cls hs)
  have HR := Lib.hid hr
  clear hr H hs
  obtain ⟨x, hx⟩ : ∃ x, w.heap.size = x := ⟨_, rfl⟩
  have HXE := Lib.hid hx
  rw [hx] at HB
  clear hx
  go_enter Tryz.func23, Tryz.ntmps23
  go_wp2_with fail
  (try rw [HXE.out])
  refine LN.out.mono ?_; rintro e w1 ⟨v, rfl, hv, b1⟩
  have B1 : Hid (Below (x + 1) (w.alloc (.cells #[.slice none 0 0] 25)) w1) := by show Below _ _ _; rw [← HXE.out]; simpa using b1
  have BW := Lib.hid (BX0.out.trans (B1.out.mono (by rw [HXE.out]; omega)))
  have hb1 : w1.heap[x]? = some (.cells #[.slice none 0 0] 25 (0, 0)) := blk B1.out (Nat.lt_succ_self _) HB.out
  have hv' : StrsAt w1 (x + 1) v (r.getD []) := by rw [← HXE.out]; simpa using hv
  have HV := Lib.hid hv'
  clear b1 hv hv' HB
  cases r with
  | none =>
    have PN : Hid (parseP s = ([], 0, 2)) := by show _ = _; unfold parseP; rw [HR.out]
    obtain ⟨d0, f0⟩ := cell_atR hb1 0
    have e1 := set_at (i := 0) (.slice none 0 0) hb1
    have p0 := (cell_atR e1 0).1
    have BE := Lib.hid (BW.out.setCell (p := ⟨x, 0, none⟩) (by rw [HXE.out]; exact Nat.le_refl _) (.slice none 0 0))
    clear hb1 e1
    go_wp2
    refine bodyPost_ret (v := .tuple #[.agg #[.slice none 0 0], .int .i64 0, .int .i64 2]) (by simp [results, Tryz.results23, go_sem, p0]) rfl ?_
    unfold ParseP
    rw [PN.out]
    exact ⟨none, 0, 0, rfl, reg_nil _, by first | exact BE.out | (rw [← HXE.out] at BE; exact BE.out)⟩
  | some L =>
    obtain ⟨la, cl, rfl, hLm⟩ := HV.out.length
    rw [Option.getD_some] at hLm
    have HV2 : Hid (StrsAt w1 (x + 1) (.slice la L.length cl) L) := HV.out
    obtain ⟨hws, hsz⟩ := lines_wsumR HR.out
    have hL := length_le_wsum L
    have HZ : Hid (∀ l ∈ L, l.length ≤ 65536) := fun l hl => by have := mem_wsumR hl; omega
    have hL2 : L.length ≤ 65536 := by omega
    clear hws hsz hL hLm HV
    obtain ⟨n, hn⟩ : ∃ n, L.length = n := ⟨_, rfl⟩
    have HN := Lib.hid hn
    have ROW : Hid (∀ (j : Nat) (hj : j < L.length), ∃ g, la = some ⟨g, 0, none⟩ ∧ g < w1.heap.size ∧ w1.cell? ⟨g, j, none⟩ = some (.string (bs L[j]))) := fun j hj => by
      rcases HV2.out.shape with ⟨_, e⟩ | ⟨g, c, e, _, hg, _, _, hc⟩
      · rw [e] at hj; cases hj
      · injection e with e1 e2 e3
        exact ⟨g, e1, hg, hc j hj⟩
    have HXB : Hid (Below w1.heap.size w1 (w1.alloc (.cells #[.slice none 0 0] 25))) := below_box _ _
    have HX0 : Hid ((w1.alloc (.cells #[.slice none 0 0] 25)).heap[w1.heap.size]? = some (.cells #[.slice none 0 0] 25 (0, 0))) := heap_alloc_new _ _
    have hwx : x < w1.heap.size := lt_of_block hb1
    obtain ⟨y, hy⟩ : ∃ y, w1.heap.size = y := ⟨_, rfl⟩
    have HYE := Lib.hid hy
    rw [hy] at HX0 HXB hwx
    have HB1 := Lib.hid hb1
    have PS : Hid (parseP s = runP 0 [] (L.map words)) := by show _ = _; unfold parseP; rw [HR.out]
    rw [hn] at hL2
    simp only [Option.isSome, Option.getD, hn]
    clear hy hn hb1 HV2
    go_wp2_with fail
    rw [HYE.out]
    go_loopw [22] (fun iv wr => ∃ (j : Nat) (a : Option Addr) (N c : Nat) (st : List Pn), iv = .int .i64 j ∧ j ≤ n ∧ Hid (wr.heap[y]? = some (.cells #[.slice a N c] 25 (0, 0))) ∧ Hid (Below y w1 wr) ∧ Hid (RegIn wr a N c st) ∧ Hid (Ok st) ∧ Hid (AtR L j st)) (fun iv _ => n - (intOf iv).toNat)
    case atStart => exact ⟨0, none, 0, 0, [], rfl, Nat.zero_le _, HX0, HXB, reg_nil _, ok_nil, rfl⟩
    case round =>
      clear HX0 HXB
      obtain ⟨j, a, N, c, st, rfl, hj, BX, bel, REG, OKS, hat⟩ := hrel
      have BL : Hid (Below w.heap.size w wr) := BW.out.trans (bel.out.mono (by rw [HXE.out]; omega))
      have hyl := lt_of_block BX.out
      by_cases hjn : j < n
      · have hjl : j < L.length := by rw [HN.out]; exact hjn
        obtain ⟨g, rfl, hg, hc⟩ := ROW.out j hjl
        have k0 : wr.cell? ⟨g, j, none⟩ = some (.string (bs L[j])) := (bel.out.cell (p := ⟨g, j, none⟩) (by rw [← HYE.out]; exact hg)).trans hc
        have hlz := HZ.out _ (List.getElem_mem hjl)
        have WC := Lib.hid (fun W (b : Below wr.heap.size wr W) => words_bs L[j] W (HH.out _ (BL.out.trans (b.mono BL.out.size))).ct.tabs.cls (by omega))
        unfold WordsPost at WC
        have hwg : ∀ q ∈ words L[j], lex.Good q := words_good L[j]
        have hww := words_wsum L[j]
        have hwz : ∀ q ∈ words L[j], q.length < 4294967281 := fun q hq => by have := mem_wsumR hq; omega
        have AL := Lib.hid (fun W v2 (b : Below wr.heap.size wr W) (hv2 : StrsAt W wr.heap.size v2 (words L[j])) =>
          addLine_is a N c st (words L[j]) v2 wr.heap.size W (HH.out _ (BL.out.trans (b.mono BL.out.size))) (REG.out.below b) (SkI.of_ok OKS.out) hv2 hwg hwz)
        have NX := Lib.hid (AtR.step hat.out hjl)
        have NO : Hid ((lineP st (words L[j])).2 = 0 → Ok (lineP st (words L[j])).1) := lineP_ok OKS.out
        have HDR : Hid (∀ st', runP 0 [] (L.map words) = runP (j + 1) st' ((L.drop (j + 1)).map words) → AtR L (j + 1) st') := fun _ h => h
        generalize words L[j] = ws at *
        generalize L[j] = lj at *
        obtain ⟨⟨R1, R2⟩, hR⟩ : ∃ R, lineP st ws = R := ⟨_, rfl⟩
        rw [hR] at AL NX NO
        dsimp only at AL NX NO
        clear hc hlz hwg hww hwz hR hjl hg
        have HS0 : Hid (∀ yh, SLn wr R1 (fun _ => false) yh wr.drew) := fun yh => ⟨(Below.refl _ _).drew, fun h => by cases h⟩
        go_wp2_with fail
        clear k0
        (try go_wp2)
        refine inv.wp_region_inv3 (SLn wr R1) (DPa lj ws R1 a N c wr.heap.size R2) (by kernel_rfl) (by kernel_rfl) (HS0.out _) ?steps ?rest
        case steps =>
          refine ⟨fun vs W done hS hD hno hold hcl hme K hK => ?_, fun vs W done hS hD hno hold hcl hme K hK => ?_, fun vs W done hS hD hno hold hcl hme K hK => ?_, fun vs W done hS hD hno hold hcl hme K hK => ?_, fun vs W done hS hD hno hold hcl hme K hK => ?_, fun vs W done hS hD hno hold hcl hme K hK => ?_, fun vs W done hS hD hno hold hcl hme K hK => ?_, fun vs W done hS hD hno hold hcl hme K hK => ?_, fun vs W done hS hD hno hold hcl hme K hK => ?_, fun vs W done hS hD hno hold hcl hme K hK => ?_, trivial⟩
          · clear hold; clear hcl; simp only [inv.dstsL, inv.putT, Nat.reduceAdd, List.set_cons_zero, List.set_cons_succ]
            have c0 := (cell_atR (blk hS.1 (lt_of_block BX.out) BX.out) 0).1
            go_simp
            exact hK _ _ _ (by simp only [inv.dstsL, inv.putT, Nat.reduceAdd, List.set_cons_zero, List.set_cons_succ]; (try rfl)) (hS.mark 0 _ (by decide) (by decide)) (rfl) (fun _ _ _ _ h => h)
          · clear hold; clear hcl; simp only [inv.dstsL, inv.putT, Nat.reduceAdd, List.set_cons_zero, List.set_cons_succ]
            go_simp
            exact hK _ _ _ (by simp only [inv.dstsL, inv.putT, Nat.reduceAdd, List.set_cons_zero, List.set_cons_succ]; (try rfl)) (hS.mark 1 _ (by decide) (by decide)) (rfl) (fun _ _ _ _ h => h)
          · clear hold; clear hcl; simp only [inv.dstsL, inv.putT, Nat.reduceAdd, List.set_cons_zero, List.set_cons_succ]
            have h1 : (vs 1) = .string (bs lj) := hD 1 (by kernel_rfl)
            rw [h1]
            go_simp
            refine (WC.out W hS.1).mono ?_; rintro e W2 ⟨v2, rfl, hv2, b2⟩
            exact hK _ _ _ (by simp only [inv.dstsL, inv.putT, Nat.reduceAdd, List.set_cons_zero, List.set_cons_succ, h1]; (try rfl)) (hS.step b2 (fun q => by simpa using q) (fun _ => rfl)) (hv2.mono hS.1.size) (fun j v _ _ => (DPa.kept b2) j v)
          · clear hold; clear hcl; simp only [inv.dstsL, inv.putT, Nat.reduceAdd, List.set_cons_zero, List.set_cons_succ]
            have h0 : (vs 0) = .agg #[.slice a N c] := hD 0 (by kernel_rfl)
            have h2 : StrsAt W wr.heap.size (vs 2) ws := hD 2 (by kernel_rfl)
            rw [h0]
            go_simp
            refine (AL.out W (vs 2) hS.1 h2).mono ?_; rintro e W2 ⟨a', N', c', rfl, g2, b2⟩
            exact hK _ _ _ (by simp only [inv.dstsL, inv.putT, Nat.reduceAdd, List.set_cons_zero, List.set_cons_succ, h0]; (try rfl)) (hS.step b2 (fun q => by simpa using q) (fun _ => rfl)) (⟨_, _, _, rfl, g2⟩) (fun j v _ _ => (DPa.kept b2) j v)
          · clear hold; clear hcl; simp only [inv.dstsL, inv.putT, Nat.reduceAdd, List.set_cons_zero, List.set_cons_succ]
            have h3 : ∃ a' N' c', (vs 3) = .tuple #[.agg #[.slice a' N' c'], .int .i64 R2] ∧ RegIn W a' N' c' R1 := hD 3 (by kernel_rfl)
            obtain ⟨a', N', c', h3, r1⟩ := h3
            rw [h3]
            go_simp
            exact hK _ _ _ (by simp only [inv.dstsL, inv.putT, Nat.reduceAdd, List.set_cons_zero, List.set_cons_succ, h3]; (try rfl)) (hS.mark 4 _ (by decide) (by decide)) (⟨_, _, _, rfl, r1⟩) (fun _ _ _ _ h => h)
          · clear hold; clear hcl; simp only [inv.dstsL, inv.putT, Nat.reduceAdd, List.set_cons_zero, List.set_cons_succ]
            have h4 : ∃ a' N' c', (vs 4) = .tuple #[.agg #[.slice a' N' c'], .int .i64 R2] ∧ RegIn W a' N' c' R1 := hD 4 (by kernel_rfl)
            obtain ⟨a', N', c', h4, r1⟩ := h4
            rw [h4]
            go_simp
            exact hK _ _ _ (by simp only [inv.dstsL, inv.putT, Nat.reduceAdd, List.set_cons_zero, List.set_cons_succ, h4]; (try rfl)) (hS.mark 5 _ (by decide) (by decide)) (⟨_, _, _, rfl, r1⟩) (fun _ _ _ _ h => h)
          · clear hold; clear hcl; simp only [inv.dstsL, inv.putT, Nat.reduceAdd, List.set_cons_zero, List.set_cons_succ]
            have h4 : ∃ a' N' c', (vs 4) = .tuple #[.agg #[.slice a' N' c'], .int .i64 R2] ∧ RegIn W a' N' c' R1 := hD 4 (by kernel_rfl)
            obtain ⟨a', N', c', h4, r1⟩ := h4
            rw [h4]
            go_simp
            exact hK _ _ _ (by simp only [inv.dstsL, inv.putT, Nat.reduceAdd, List.set_cons_zero, List.set_cons_succ, h4]; (try rfl)) (hS.mark 6 _ (by decide) (by decide)) (rfl) (fun _ _ _ _ h => h)
          · clear hold; clear hcl; simp only [inv.dstsL, inv.putT, Nat.reduceAdd, List.set_cons_zero, List.set_cons_succ]
            have d8 := hno 8 (by kernel_rfl)
            have bxx := below_box W (.cells #[.slice none 0 0] 25)
            have hnew := heap_alloc_new W (.cells #[.slice none 0 0] 25)
            have hzz := hS.1.size
            go_simp
            exact hK _ _ _ (by simp only [inv.dstsL, inv.putT, Nat.reduceAdd, List.set_cons_zero, List.set_cons_succ]; (try rfl)) (hS.step bxx (fun q => by simpa using q) (fun q => by rw [d8] at q; cases q)) (⟨_, _, _, _, rfl, hnew, hzz⟩) (fun j v _ _ => (DPa.kept bxx) j v)
          · clear hold; clear hcl; simp only [inv.dstsL, inv.putT, Nat.reduceAdd, List.set_cons_zero, List.set_cons_succ]
            have h5 : ∃ a' N' c', (vs 5) = .agg #[.slice a' N' c'] ∧ RegIn W a' N' c' R1 := hD 5 (by kernel_rfl)
            have h7 : ∃ B y0 y1 y2, (vs 7) = .pointer (some ⟨B, 0, none⟩) ∧ W.heap[B]? = some (.cells #[.slice y0 y1 y2] 25 (0, 0)) ∧ wr.heap.size ≤ B := hD 7 (by kernel_rfl)
            obtain ⟨a', N', c', h5, r1⟩ := h5
            obtain ⟨B, y0, y1, y2, h7, hb, hwB⟩ := h7
            have HH7 := h7
            have GS : W.grownBy (W.setCell ⟨B, 0, none⟩ (.slice a' N' c')) (some B) := gb_set _ (gb_refl W (some B))
            have SB := hS.1.setCell (p := ⟨B, 0, none⟩) hwB (.slice a' N' c')
            obtain ⟨c0, f0⟩ := cell_atR hb 0
            have hset := set_at (i := 0) (.slice a' N' c') hb
            rw [h5, h7]
            go_simp
            exact hK undef _ _ (by simp only [inv.dstsL, inv.putT, Nat.reduceAdd, List.set_cons_zero, List.set_cons_succ, h5, h7]; (try rfl)) (⟨SB, fun _ => ⟨B, a', N', c', HH7, hset, hwB, r1.box hb GS⟩⟩) (by first | rfl | trivial) (fun j v _ _ h => DPa.kept3 hb hset GS j v h)
          · clear hold; clear hcl; simp only [inv.dstsL, inv.putT, Nat.reduceAdd, List.set_cons_zero, List.set_cons_succ]
            have h6 : (vs 6) = .int .i64 R2 := hD 6 (by kernel_rfl)
            rw [h6]
            go_simp
            exact hK _ _ _ (by simp only [inv.dstsL, inv.putT, Nat.reduceAdd, List.set_cons_zero, List.set_cons_succ, h6]; (try rfl)) (hS.mark 9 _ (by decide) (by decide)) (rfl) (fun _ _ _ _ h => h)
        case rest =>
          intro vs W done hdone hS hD
          obtain ⟨b9, h9⟩ := hS
          obtain ⟨B, a', N', c', hp, hb9, hB9, r9⟩ := h9 (hdone 8 (by decide))
          have hE9 : vs 9 = .int .i64 R2 := hD 9 (by decide)
          simp only [inv.dstsL, inv.putT, Nat.reduceAdd, List.set_cons_zero, List.set_cons_succ]
          rw [hp, hE9]
          have Y2 := Lib.hid (blk b9 hyl BX.out)
          have BEL9 := Lib.hid (bel.out.trans (b9.mono (Nat.le_of_lt hyl)))
          have BW9 := Lib.hid (BW.out.trans (BEL9.out.mono (by rw [HXE.out]; omega)))
          have HB9 := Lib.hid hb9
          have R9 := Lib.hid r9
          generalize vs 0 = y0, vs 1 = y1, vs 2 = y2, vs 3 = y3, vs 4 = y4, vs 5 = y5, vs 6 = y6 at *
          clear hD hdone h9 hp hE9 b9 hb9 r9 HS0
          by_cases e0 : R2 = 0
          · subst e0
            have NX2 := NX.out
            rw [if_pos rfl] at NX2
            have NA := Lib.hid (HDR.out _ NX2)
            have O9 := Lib.hid (NO.out rfl)
            obtain ⟨c0, -⟩ := cell_atR HB9.out 0
            obtain ⟨d0, f0⟩ := cell_atR Y2.out 0
            have hset := set_at (i := 0) (.slice a' N' c') Y2.out
            have B10 := Lib.hid (BEL9.out.setCell (p := ⟨y, 0, none⟩) (Nat.le_refl _) (.slice a' N' c'))
            have R10 := Lib.hid (R9.out.set (v := .slice a' N' c') Y2.out)
            have S10 := Lib.hid hset
            clear hset NX2
            go_wp2
            go_roundw
            case rel => exact ⟨j + 1, a', N', c', R1, by go_num, by omega, S10, B10, R10, O9, NA⟩
            case measure => simp [intOf]; omega
          · have TE : (R2 != 0) = true := bne_iff_ne.2 e0
            have NX2 := NX.out
            rw [if_neg e0, ← PS.out] at NX2
            have HF := Lib.hid NX2
            have hbx := blk BEL9.out hwx HB1.out
            obtain ⟨d0, f0⟩ := cell_atR hbx 0
            have e1 := set_at (i := 0) (.slice none 0 0) hbx
            have p0 := (cell_atR e1 0).1
            have BE := Lib.hid (BW9.out.setCell (p := ⟨x, 0, none⟩) (by rw [HXE.out]; exact Nat.le_refl _) (.slice none 0 0))
            have hw64 : IntKind.i64.wrap ((j : Int) + 1) = ((j + 1 : Nat) : Int) := by rw [IntKind.wrap_i64]; omega
            clear hbx e1 e0 NX2
            go_wp2
            refine bodyPost_ret (v := .tuple #[.agg #[.slice none 0 0], .int .i64 ((j + 1 : Nat) : Int), .int .i64 R2]) (by simp [results, Tryz.results23, go_sem, p0]) rfl ?_
            unfold ParseP
            rw [HF.out]
            exact ⟨none, 0, 0, rfl, reg_nil _, by first | exact BE.out | (rw [← HXE.out] at BE; exact BE.out)⟩
      · obtain rfl : n = j := by omega
        have hf : runP 0 [] (L.map words) = (st, 0, 0) := by
          rw [hat.out, ← HN.out, List.drop_length]; rfl
        have HF : Hid (parseP s = (st, 0, 0)) := by show _ = _; rw [PS.out, hf]
        clear hf
        obtain ⟨c0, -⟩ := cell_atR BX.out 0
        have hbx := blk bel.out hwx HB1.out
        obtain ⟨d0, f0⟩ := cell_atR hbx 0
        have e1 := set_at (i := 0) (.slice a N c) hbx
        have p0 := (cell_atR e1 0).1
        have R9 := Lib.hid (REG.out.set (v := .slice a N c) hbx)
        have BE := Lib.hid (BL.out.setCell (p := ⟨x, 0, none⟩) (by rw [HXE.out]; exact Nat.le_refl _) (.slice a N c))
        clear hbx e1
        go_wp2
        refine bodyPost_ret (v := .tuple #[.agg #[.slice a N c], .int .i64 0, .int .i64 0]) (by simp [results, Tryz.results23, go_sem, p0]) rfl ?_
        unfold ParseP
        rw [HF.out]
        exact ⟨_, _, _, rfl, R9.out, by first | exact BE.out | (rw [← HXE.out] at BE; exact BE.out)⟩
end Go.Proofs.YthdjpmiohfaphaaGreatDoor.reg

/- The letters of skills: the walk of the reference of layer 5. No condition. -/
namespace Go.Proofs.YthdjpmiohfaphaaGreatDoor.reg
open Go.RowKit lex aggs kit net strs

set_option maxRecDepth 100000 in
theorem rletters_is (k : Nat) (hk : k < 32) (w : World) :
    Calls Tryz.prog 27 #[.int .i64 k] w fun e w' => e = .returned (.string (bs (letters k))) ∧ Below w.heap.size w w' := by
  have BX := Lib.hid (Below.refl w.heap.size w)
  go_enter Tryz.func27, Tryz.ntmps27
  go_wp2_with fail
  go_loopw [3, 4] (fun st iv wr => ∃ i : Nat, i ≤ 5 ∧ iv = .int .i64 i ∧ Hid (w = wr) ∧ ∃ y : ByteArray, st = .string y ∧ y.size ≤ 5 ∧ Hid (y = bs (pre k i))) (fun _ iv _ => 5 - (intOf iv).toNat)
  case atStart => exact ⟨0, by decide, rfl, rfl, _, rfl, by decide, rfl⟩
  case round =>
    obtain ⟨i, hi5, rfl, hw, y, rfl, hy, hp⟩ := hrel
    obtain rfl := hw.out
    by_cases hi : i < 5
    · have TB := bit_is k hk i hi
      have SE := Lib.hid (seiht_is i hi)
      have hii : (i : Int) < 5 := by omega
      have szx : ((⟨#[115, 101, 105, 104, 116]⟩ : ByteArray).extract i (i + 1)).size = 1 := by rw [SE.out, bs_size]; rfl
      have hyl : y.size ≤ i := by rw [hp.out, bs_size]; exact pre_len k i
      by_cases hb : k / 2 ^ i % 2 = 1
      · rw [decide_eq_true hb] at TB
        have hn : Hid (y ++ (⟨#[115, 101, 105, 104, 116]⟩ : ByteArray).extract i (i + 1) = bs (pre k (i + 1))) := by
          show _ = _
          rw [SE.out, hp.out, bs_append]
          congr 1
          show _ = pre k i ++ bit k i (chr i)
          unfold bit
          rw [if_pos hb]
        clear hb
        go_wp2_with fail
        go_roundw
        case rel => exact ⟨i + 1, by omega, by go_num, trivial, _, rfl, by rw [ByteArray.size_append, szx]; omega, hn⟩
        case measure => simp [intOf]; omega
      · rw [decide_eq_false hb] at TB
        have hn : Hid (y = bs (pre k (i + 1))) := by
          show _ = _
          rw [hp.out]
          congr 1
          show _ = pre k i ++ bit k i (chr i)
          unfold bit
          rw [if_neg hb, List.append_nil]
        clear hb
        go_wp2_with fail
        go_roundw
        case rel => exact ⟨i + 1, by omega, by go_num, trivial, _, rfl, hy, hn⟩
        case measure => simp [intOf]; omega
    · obtain rfl : i = 5 := by omega
      have hl : Hid (y = bs (lets k)) := by show _ = _; rw [hp.out, pre_lets]
      by_cases e : lets k = []
      · have hy0 : y = ⟨#[]⟩ := by rw [hl.out, e]; rfl
        have hL : letters k = [45] := by unfold letters; rw [if_pos e]
        have HL := Lib.hid hL
        subst hy0
        clear e hL
        go_wp2
        go_ret
        exact ⟨by rw [HL.out]; rfl, BX.out⟩
      · have TE : (y.toList == []) = false := by
          rw [Lib.toList_data, hl.out, bs_data]
          exact beq_eq_false_iff_ne.2 e
        have hL : letters k = lets k := by unfold letters; rw [if_neg e]
        have HL := Lib.hid hL
        clear e hL
        go_wp2
        go_ret
        exact ⟨by rw [HL.out, hl.out]; rfl, BX.out⟩
end Go.Proofs.YthdjpmiohfaphaaGreatDoor.reg

/- The walk of the reference's Text: it gives the decimal digits. -/
namespace Go.Proofs.YthdjpmiohfaphaaGreatDoor.lex
open Go.RowKit strs kit

/-- the digits that are still to be put ahead -/
def ahead (u : Nat) : List UInt8 := if u = 0 then [] else Lib.decDigits u
theorem ahead_zero : ahead 0 = [] := rfl
theorem ahead_step {u : Nat} (h : 1 ≤ u) : ahead u = ahead (u / 10) ++ [UInt8.ofNat (48 + u % 10)] := by
  unfold ahead
  rw [if_neg (by omega), Lib.decDigits]
  by_cases h1 : u < 10
  · rw [dif_pos h1, if_pos (by omega), show u % 10 = u from by omega]; rfl
  · rw [dif_neg h1, if_neg (by omega)]
theorem ahead_all {u : Nat} (h : 1 ≤ u) : ahead u = Lib.decDigits u := by unfold ahead; rw [if_neg (by omega)]

theorem dig_bs (d : Nat) (x : List UInt8) : ({ data := #[48 + UInt8.ofNat d] } : ByteArray) ++ bs x = bs (UInt8.ofNat (48 + d) :: x) := by
  have e : (48 + UInt8.ofNat d : UInt8) = UInt8.ofNat (48 + d) := by simp
  rw [e, ← bs_of (({ data := #[UInt8.ofNat (48 + d)] } : ByteArray) ++ bs x), ByteArray.data_append]; simp [bs]
theorem sign_bs (x : List UInt8) : ({ data := #[45] } : ByteArray) ++ bs x = bs (45 :: x) := by
  rw [← bs_of (({ data := #[45] } : ByteArray) ++ bs x), ByteArray.data_append]; simp [bs]
theorem neg_tmod (u : Nat) : (-(u : Int)).tmod 10 = -((u : Int) % 10) := by rw [Int.neg_tmod, Int.tmod_eq_emod_of_nonneg (by omega)]
theorem neg_tdiv (u : Nat) : (-(u : Int)).tdiv 10 = -((u : Int) / 10) := by rw [Int.neg_tdiv, Int.tdiv_eq_ediv_of_nonneg (by omega)]

set_option maxRecDepth 100000 in
set_option maxHeartbeats 1000000 in
theorem rtext_any (n : Int) (w : World) (n0 : -9223372036854775808 ≤ n) (n1 : n ≤ 9223372036854775807) :
    Calls Tryz.prog 26 #[.int .i64 n] w fun e w' => e = .returned (.string (bs (Lib.itoa n))) ∧ Below w.heap.size w w' := by
  by_cases hz : n = 0
  · subst hz
    have e : Lib.itoa 0 = [48] := by show Lib.decDigits 0 = _; rw [Lib.decDigits_one (by decide)]; rfl
    rw [e]
    clear e n0 n1
    go_enter Tryz.func26, Tryz.ntmps26
    go_wp2
    go_ret
    exact ⟨rfl, Below.refl _ _⟩
  · have t0 : (n == 0) = false := by rw [beq_eq_false_iff_ne]; exact hz
    by_cases hp : 0 < n
    · obtain ⟨N, rfl⟩ := Int.eq_ofNat_of_zero_le (Int.le_of_lt hp)
      have hN : 1 ≤ N := by omega
      have hit : Hid (Lib.itoa (N : Int) = Lib.decDigits N) := by show (if (N : Int) < 0 then _ else Lib.decDigits (N : Int).toNat) = _; rw [if_neg (by omega)]; rfl
      have tn : decide ((N : Int) < 0) = false := decide_eq_false (by omega)
      clear hz hp
      go_enter Tryz.func26, Tryz.ntmps26
      go_wp2
      go_loopw [3, 4] (fun t m wr => ∃ (x : List UInt8) (u : Nat), t = .string (bs x) ∧ m = .int .i64 u ∧ u ≤ N ∧ Hid (ahead u ++ x = Lib.decDigits N) ∧ x.length ≤ 20 ∧ u < 10 ^ (20 - x.length) ∧ Below w.heap.size w wr) (fun _ m _ => (intOf m).toNat)
      case atStart => exact ⟨[], N, rfl, rfl, Nat.le_refl _, by rw [ahead_all hN]; exact List.append_nil _, by simp, by simp; omega, Below.refl _ _⟩
      case round =>
        obtain ⟨x, u, rfl, rfl, hu, hx, hxl, hpow, hbl⟩ := hrel
        have hbx := bs_size x
        by_cases hu0 : 1 ≤ u
        · have tm : ((u : Int) != 0) = true := by rw [bne_iff_ne]; omega
          have hxl2 : x.length ≤ 19 := by
            rcases Nat.lt_or_ge x.length 20 with h | h
            · omega
            · rw [show 20 - x.length = 0 from by omega] at hpow; simp at hpow; omega
          have hpow2 : u / 10 < 10 ^ (20 - (x.length + 1)) := by
            rw [show 20 - x.length = (20 - (x.length + 1)) + 1 from by omega, Nat.pow_succ] at hpow
            omega
          have hnext : Hid (ahead (u / 10) ++ (UInt8.ofNat (48 + u % 10) :: x) = Lib.decDigits N) := by
            have := hx.out
            rw [ahead_step hu0] at this
            show ahead (u / 10) ++ ([UInt8.ofNat (48 + u % 10)] ++ x) = _
            rw [← this, List.append_assoc]
          clear hpow hx
          have kc := fun (w : World) => kit.str1i w (48 + (u : Int) % 10) (by omega) (by omega)
          go_wp2
          go_roundw
          case rel => exact ⟨UInt8.ofNat (48 + u % 10) :: x, u / 10, congrArg _ (dig_bs _ _), by go_num, by omega, hnext, by simp; omega, by simpa using hpow2, hbl.alloc hbl.size _⟩
          case measure => simp [intOf]; omega
        · have hu1 : u = 0 := by omega
          subst hu1
          have hfin : Hid (x = Lib.itoa (N : Int)) := by have := hx.out; rw [ahead_zero, List.nil_append] at this; rw [hit.out]; exact this
          clear hx
          go_wp2
          go_ret
          exact ⟨by rw [← hfin.out]; rfl, hbl⟩
    · obtain ⟨N, hNn⟩ : ∃ N : Nat, n = -(N : Int) := ⟨n.natAbs, by omega⟩
      subst hNn
      have hN : 1 ≤ N := by omega
      have hit : Hid (Lib.itoa (-(N : Int)) = 45 :: Lib.decDigits N) := by
        show (if (-(N : Int)) < 0 then 45 :: Lib.decDigits (-(N : Int)).natAbs else _) = _
        rw [if_pos (by omega)]; simp
      have tn : decide (-(N : Int) < 0) = true := decide_eq_true (by omega)
      clear hz hp
      go_enter Tryz.func26, Tryz.ntmps26
      go_wp2
      go_loopw [3, 4, 5] (fun t m _ wr => ∃ (x : List UInt8) (u : Nat), t = .string (bs x) ∧ m = .int .i64 (-(u : Int)) ∧ u ≤ N ∧ Hid (ahead u ++ x = Lib.decDigits N) ∧ x.length ≤ 20 ∧ u < 10 ^ (20 - x.length) ∧ Below w.heap.size w wr) (fun _ m _ _ => (intOf m).natAbs)
      case atStart => exact ⟨[], N, rfl, rfl, Nat.le_refl _, by rw [ahead_all hN]; exact List.append_nil _, by simp, by simp; omega, Below.refl _ _⟩
      case round =>
        obtain ⟨x, u, rfl, rfl, hu, hx, hxl, hpow, hbl⟩ := hrel
        have hbx := bs_size x
        by_cases hu0 : 1 ≤ u
        · have tm : (-(u : Int) != 0) = true := by rw [bne_iff_ne]; omega
          have hxl2 : x.length ≤ 19 := by
            rcases Nat.lt_or_ge x.length 20 with h | h
            · omega
            · rw [show 20 - x.length = 0 from by omega] at hpow; simp at hpow; omega
          have hpow2 : u / 10 < 10 ^ (20 - (x.length + 1)) := by
            rw [show 20 - x.length = (20 - (x.length + 1)) + 1 from by omega, Nat.pow_succ] at hpow
            omega
          have hnext : Hid (ahead (u / 10) ++ (UInt8.ofNat (48 + u % 10) :: x) = Lib.decDigits N) := by
            have := hx.out
            rw [ahead_step hu0] at this
            show ahead (u / 10) ++ ([UInt8.ofNat (48 + u % 10)] ++ x) = _
            rw [← this, List.append_assoc]
          clear hpow hx
          have q2 := neg_tdiv u
          by_cases hd : u % 10 = 0
          · have kc := fun (w : World) => kit.str1i w 48 (by omega) (by omega)
            have q1 : (-(u : Int)).tmod 10 = 0 := by rw [neg_tmod]; omega
            have hnext0 : Hid (ahead (u / 10) ++ (48 :: x) = Lib.decDigits N) := by have := hnext.out; rwa [hd] at this
            clear hd hnext
            go_wp2
            go_roundw
            case rel => exact ⟨48 :: x, u / 10, congrArg _ (dig_bs 0 _), by go_num, by omega, hnext0, by simp; omega, by simpa using hpow2, hbl.alloc hbl.size _⟩
            case measure => simp [intOf]; omega
          · have kc := fun (w : World) => kit.str1i w (48 + (u : Int) % 10) (by omega) (by omega)
            have q1 := neg_tmod u
            go_wp2
            go_roundw
            case rel => exact ⟨UInt8.ofNat (48 + u % 10) :: x, u / 10, congrArg _ (dig_bs _ _), by go_num, by omega, hnext, by simp; omega, by simpa using hpow2, hbl.alloc hbl.size _⟩
            case measure => simp [intOf]; omega
        · have hu1 : u = 0 := by omega
          subst hu1
          have hfin : Hid (bs (45 :: x) = bs (Lib.itoa (-(N : Int)))) := by have := hx.out; rw [ahead_zero, List.nil_append] at this; rw [hit.out, this]; rfl
          clear hx
          go_wp2
          go_ret
          exact ⟨by rw [← hfin.out, ← sign_bs]; rfl, hbl⟩

end Go.Proofs.YthdjpmiohfaphaaGreatDoor.lex

/- The walk of the reference's Number. It computes what the program's own function computes. -/
namespace Go.Proofs.YthdjpmiohfaphaaGreatDoor.lex
open Go.RowKit
set_option maxRecDepth 100000 in
set_option maxHeartbeats 1000000 in
theorem rnumber_any (s : ByteArray) (most : Int) (w : World) (hs : s.size ≤ maxLen) (m0 : -9223372036854775808 ≤ most) (m1 : most ≤ 9223372036854775807) :
    Calls Tryz.prog 59 #[.string s, .int .i64 most] w fun e w' => e = .returned (.tuple #[.int .i64 (numV s.data.toList most), .bool (numB s.data.toList most)]) ∧ w = w' := by
  unfold maxLen at hs
  have hl : s.data.toList.length = s.size := by simp
  by_cases e0 : s.size = 0
  · have hb := numB_empty most (hl.trans e0)
    have hv := numV_no hb
    rw [hb, hv]
    have t1 : decide ((s.size : Int) < 1) = true := decide_eq_true (by omega)
    clear hb hv hl
    go_enter Tryz.func59, Tryz.ntmps59
    go_wp2
    go_ret2
    exact ⟨rfl, rfl⟩
  · have e0' : 0 < s.size := by omega
    have t1 : decide ((s.size : Int) < 1) = false := decide_eq_false (by omega)
    by_cases e1 : 1 < s.size ∧ s[0].toNat = 48
    · obtain ⟨e2, e3⟩ := e1
      have hb := numB_zero (l := s.data.toList) most (by omega) e3
      have hv := numV_no hb
      rw [hb, hv]
      have t2 : decide (1 < (s.size : Int)) = true := decide_eq_true (by omega)
      have z3 : ((s[0].toNat : Int) == 48) = true := by rw [beq_iff_eq]; omega
      clear hb hv hl e3
      go_enter Tryz.func59, Tryz.ntmps59
      go_wp2
      go_ret2
      exact ⟨rfl, rfl⟩
    · have hz : 1 < s.size → ((s[0].toNat : Int) == 48) = false := by
        intro h1; rw [beq_eq_false_iff_ne]; intro h2; exact e1 ⟨h1, by omega⟩
      have E1 := Lib.hid e1
      clear e1
      by_cases e2 : 1 < s.size
      all_goals
        first | (have t2 : decide (1 < (s.size : Int)) = true := decide_eq_true (by omega)) | (have t2 : decide (1 < (s.size : Int)) = false := decide_eq_false (by omega))
        try (have hz' := hz e2)
        clear hz
        go_enter Tryz.func59, Tryz.ntmps59
        go_wp2
        go_loop [6, 7] (fun n i => ∃ (k v : Nat), k ≤ s.size ∧ i = .int .i64 k ∧ n = .int .i64 v ∧ v ≤ 9223372036854775807 ∧ Hid (v = val (s.data.toList.take k)) ∧ Hid (∀ j (hj : j < s.data.toList.length), j < k → isD s.data.toList[j] = true)) (fun _ i => s.size - (intOf i).toNat)
        case atStart => exact ⟨0, 0, Nat.zero_le _, rfl, rfl, Nat.zero_le _, rfl, fun j hj h => absurd h (Nat.not_lt_zero j)⟩
        case round =>
          obtain ⟨k, v, hk, rfl, rfl, hv9, hv, hd⟩ := hrel
          by_cases hlt : k < s.size
          · by_cases hdig : isD s[k] = true
            · have hb := of_decide_eq_true hdig
              obtain ⟨hb1, hb2⟩ := hb
              have HD := Lib.hid hdig
              clear hdig
              have hvs : Hid (val (s.data.toList.take (k + 1)) = v * 10 + (s[k].toNat - 48)) := by
                rw [take_snoc _ _ (by omega), val_snoc, hv.out]; rfl
              by_cases hgr : (9223372036854775807 - ((s[k].toNat : Int) - 48)) / 10 < v
              · have hbig : Hid (numB s.data.toList most = false) := numB_great most (k := k + 1) (by rw [hvs.out]; omega)
                go_wp2_with (go_at_call 63; refine (digit_is _ true HD.out _).mono ?_; rintro e w' ⟨rfl, rfl⟩)
                go_ret2
                exact ⟨ret_num (numV_no hbig.out).symm hbig.out.symm, rfl⟩
              · have g2 : (v : Int) ≤ (9223372036854775807 - ((s[k].toNat : Int) - 48)) / 10 := by omega
                clear hgr
                have g3 : (v : Int) * 10 + ((s[k].toNat : Int) - 48) ≤ 9223372036854775807 := by omega
                have g4 : 10 * (v : Int) + ((s[k].toNat : Int) - 48) ≤ 9223372036854775807 := by omega
                go_wp2_with (go_at_call 63; refine (digit_is _ true HD.out _).mono ?_; rintro e w' ⟨rfl, rfl⟩)
                go_round
                case rel =>
                  refine ⟨k + 1, v * 10 + (s[k].toNat - 48), by omega, by go_num, congrArg _ (by omega), by omega, hvs.out.symm, ?_⟩
                  intro j hj hjk
                  by_cases e : j = k
                  · subst e; exact HD.out
                  · exact hd.out j hj (by omega)
                case measure => simp [intOf]; omega
            · have hn := Lib.hid (numB_other (l := s.data.toList) most (k := k) (by omega) (Bool.eq_false_iff.2 hdig))
              have HD := Lib.hid (Bool.eq_false_iff.2 hdig)
              clear hdig
              go_wp2_with (go_at_call 63; refine (digit_is _ false HD.out _).mono ?_; rintro e w' ⟨rfl, rfl⟩)
              go_ret2
              exact ⟨ret_num (numV_no hn.out).symm hn.out.symm, rfl⟩
          · have hk' : k = s.size := by omega
            have hall : s.data.toList.take k = s.data.toList := List.take_of_length_le (by omega)
            have hvv : v = val s.data.toList := by rw [hv.out, hall]
            by_cases hmost : (v : Int) ≤ most
            · have hy := Lib.hid (numB_yes (l := s.data.toList) (most := most) (by omega) (fun hh => E1.out ⟨by omega, hh.2⟩) (fun j hj => hd.out j hj (by omega)) (by rw [← hvv]; exact hmost))
              have HV := Lib.hid hvv
              clear hk' hall hvv
              go_wp2
              go_ret2
              exact ⟨ret_num (by rw [numV_yes hy.out, HV.out]) hy.out.symm, rfl⟩
            · have hbig : Hid (numB s.data.toList most = false) := numB_great most (k := k) (by rw [hall, ← hvv]; omega)
              clear hk' hall hvv
              go_wp2
              go_ret2
              exact ⟨ret_num (numV_no hbig.out).symm hbig.out.symm, rfl⟩
end Go.Proofs.YthdjpmiohfaphaaGreatDoor.lex

/- The walks of the reference of layer 2, first part: timeOf, Make, Split, two, Print. They compute what the program's own functions compute. -/
namespace Go.Proofs.YthdjpmiohfaphaaGreatDoor.cal
open Go.RowKit strs lex

theorem rtime_is (t : Int) (b : Bool) (hb : isTm t = b) (w : World) :
    Calls Tryz.prog 61 #[.int .i64 t] w fun e w' => e = .returned (.bool b) ∧ w = w' := by
  unfold isTm at hb
  have hr : t < 0 ∨ (0 ≤ t ∧ t ≤ 16777216) ∨ (0 ≤ t ∧ 16777216 < t) := by omega
  rcases hr with r1 | ⟨r1, r2⟩ | ⟨r1, r2⟩
  · rw [decide_eq_false (by omega)] at hb
    subst hb
    go_enter Tryz.func61, Tryz.ntmps61
    go_wp2
    all_goals (first | (exfalso; omega) | (go_ret; exact ⟨ret_bool (by first | rfl | exact decide_eq_true (by omega) | exact decide_eq_false (by omega)), rfl⟩))
  · rw [decide_eq_true (by omega)] at hb
    subst hb
    go_enter Tryz.func61, Tryz.ntmps61
    go_wp2
    all_goals (first | (exfalso; omega) | (go_ret; exact ⟨ret_bool (by first | rfl | exact decide_eq_true (by omega) | exact decide_eq_false (by omega)), rfl⟩))
  · rw [decide_eq_false (by omega)] at hb
    subst hb
    go_enter Tryz.func61, Tryz.ntmps61
    go_wp2
    all_goals (first | (exfalso; omega) | (go_ret; exact ⟨ret_bool (by first | rfl | exact decide_eq_true (by omega) | exact decide_eq_false (by omega)), rfl⟩))

set_option maxRecDepth 100000 in
theorem rmake_ok (d h m : Int) (ho : mkOk d h m = true) (w : World) :
    Calls Tryz.prog 71 #[.int .i64 d, .int .i64 h, .int .i64 m] w fun e w' => e = .returned (.tuple #[.int .i64 (1440 * d + 60 * h + m), .int .i64 0]) ∧ w = w' := by
  unfold mkOk at ho
  obtain ⟨h1, h2, h3, h4, h5, h6⟩ := of_decide_eq_true ho
  clear ho
  have h7 : d ≤ 16777216 := by omega
  have b4 := Lib.hid (fun w => rtime_is (1440 * d + 60 * h + m) true (decide_eq_true (by omega)) w)
  go_enter Tryz.func71, Tryz.ntmps71
  go_wp2_with (go_at_call 61; refine (b4.out _).mono ?_; rintro e w' ⟨rfl, rfl⟩)
  all_goals (first | (exfalso; omega) | (go_ret2; exact ⟨rfl, rfl⟩))
set_option maxRecDepth 100000 in
set_option maxHeartbeats 1000000 in
theorem rmake_no (d h m : Int) (ho : mkOk d h m = false) (w : World) :
    Calls Tryz.prog 71 #[.int .i64 d, .int .i64 h, .int .i64 m] w fun e w' => e = .returned (.tuple #[.int .i64 0, .int .i64 5]) ∧ w = w' := by
  unfold mkOk at ho
  have ho' := of_decide_eq_false ho
  have hc : h < 0 ∨ (0 ≤ h ∧ 23 < h) ∨ (0 ≤ h ∧ h ≤ 23 ∧ m < 0) ∨ (0 ≤ h ∧ h ≤ 23 ∧ 0 ≤ m ∧ 59 < m) ∨ (0 ≤ h ∧ h ≤ 23 ∧ 0 ≤ m ∧ m ≤ 59 ∧ d < 0) ∨ (0 ≤ h ∧ h ≤ 23 ∧ 0 ≤ m ∧ m ≤ 59 ∧ 0 ≤ d ∧ 16777216 < d) ∨ (0 ≤ h ∧ h ≤ 23 ∧ 0 ≤ m ∧ m ≤ 59 ∧ 0 ≤ d ∧ d ≤ 16777216 ∧ 16777216 < 1440 * d + 60 * h + m) := by omega
  clear ho ho'
  rcases hc with c1 | ⟨c1, c2⟩ | ⟨c1, c2, c3⟩ | ⟨c1, c2, c3, c4⟩ | ⟨c1, c2, c3, c4, c5⟩ | ⟨c1, c2, c3, c4, c5, c6⟩ | ⟨c1, c2, c3, c4, c5, c6, c7⟩
  · go_enter Tryz.func71, Tryz.ntmps71
    go_wp2
    all_goals (first | (exfalso; omega) | (go_ret2; exact ⟨rfl, rfl⟩))
  · go_enter Tryz.func71, Tryz.ntmps71
    go_wp2
    all_goals (first | (exfalso; omega) | (go_ret2; exact ⟨rfl, rfl⟩))
  · go_enter Tryz.func71, Tryz.ntmps71
    go_wp2
    all_goals (first | (exfalso; omega) | (go_ret2; exact ⟨rfl, rfl⟩))
  · go_enter Tryz.func71, Tryz.ntmps71
    go_wp2
    all_goals (first | (exfalso; omega) | (go_ret2; exact ⟨rfl, rfl⟩))
  · go_enter Tryz.func71, Tryz.ntmps71
    go_wp2
    all_goals (first | (exfalso; omega) | (go_ret2; exact ⟨rfl, rfl⟩))
  · go_enter Tryz.func71, Tryz.ntmps71
    go_wp2
    all_goals (first | (exfalso; omega) | (go_ret2; exact ⟨rfl, rfl⟩))
  · have b4 := Lib.hid (fun w => rtime_is (1440 * d + 60 * h + m) false (decide_eq_false (by omega)) w)
    go_enter Tryz.func71, Tryz.ntmps71
    go_wp2_with (go_at_call 61; refine (b4.out _).mono ?_; rintro e w' ⟨rfl, rfl⟩)
    all_goals (first | (exfalso; omega) | (go_ret2; exact ⟨rfl, rfl⟩))
theorem rmake_is (d h m v x : Int) (hv : mkV d h m = v) (hx : mkE d h m = x) (w : World) :
    Calls Tryz.prog 71 #[.int .i64 d, .int .i64 h, .int .i64 m] w fun e w' => e = .returned (.tuple #[.int .i64 v, .int .i64 x]) ∧ w = w' := by
  subst hv hx
  unfold mkV mkE
  by_cases ho : mkOk d h m = true
  · rw [if_pos ho, if_pos ho]; exact rmake_ok d h m ho w
  · rw [if_neg ho, if_neg ho]; exact rmake_no d h m (Bool.eq_false_iff.2 ho) w

theorem rsplit_ok (t : Int) (ho : isTm t = true) (w : World) :
    Calls Tryz.prog 42 #[.int .i64 t] w fun e w' => e = .returned (.tuple #[.int .i64 (t / 1440), .int .i64 (t % 1440 / 60), .int .i64 (t % 60), .bool true]) ∧ w = w' := by
  have b1 := Lib.hid (fun w => rtime_is t true ho w)
  unfold isTm at ho
  obtain ⟨h1, h2⟩ := of_decide_eq_true ho
  clear ho
  go_enter Tryz.func42, Tryz.ntmps42
  go_wp2_with fail
  refine (b1.out _).mono ?_; rintro e w' ⟨rfl, rfl⟩
  go_wp2
  exact bodyPost_ret (v := .tuple #[.int .i64 (t / 1440), .int .i64 (t % 1440 / 60), .int .i64 (t % 60), .bool true]) (by simp [results, Tryz.results42, go_sem]) rfl ⟨rfl, rfl⟩
theorem rsplit_no (t : Int) (ho : isTm t = false) (w : World) :
    Calls Tryz.prog 42 #[.int .i64 t] w fun e w' => e = .returned (.tuple #[.int .i64 0, .int .i64 0, .int .i64 0, .bool false]) ∧ w = w' := by
  have b1 := Lib.hid (fun w => rtime_is t false ho w)
  clear ho
  go_enter Tryz.func42, Tryz.ntmps42
  go_wp2_with fail
  refine (b1.out _).mono ?_; rintro e w' ⟨rfl, rfl⟩
  go_wp2
  exact bodyPost_ret (v := .tuple #[.int .i64 0, .int .i64 0, .int .i64 0, .bool false]) (by simp [results, Tryz.results42, go_sem]) rfl ⟨rfl, rfl⟩

theorem rtext_at (n : Int) (x : ByteArray) (hx : x = bs (Lib.itoa n)) (w : World) (h0 : -9223372036854775808 ≤ n) (h1 : n ≤ 9223372036854775807) :
    Calls Tryz.prog 26 #[.int .i64 n] w fun e w' => e = .returned (.string x) ∧ Below w.heap.size w w' := by
  subst hx; exact rtext_any n w h0 h1
set_option maxRecDepth 100000 in
theorem rtwo_at (n : Int) (x : ByteArray) (hx : x = bs (two n)) (w : World) (h0 : 0 ≤ n) (h1 : n ≤ 9223372036854775807) :
    Calls Tryz.prog 43 #[.int .i64 n] w fun e w' => e = .returned (.string x) ∧ Below w.heap.size w w' := by
  subst hx
  obtain ⟨t, ht⟩ : ∃ t, t = bs (Lib.itoa n) := ⟨_, rfl⟩
  have hk : t.size ≤ 21 := by rw [ht]; exact itoa_size (by omega) h1
  have C := Lib.hid (rtext_at n t ht w (by omega) h1)
  by_cases c : n < 10
  · have HF := Lib.hid (show ({ data := #[48] } : ByteArray) ++ t = bs (two n) from by rw [ht]; exact two_bs c)
    clear ht
    go_enter Tryz.func43, Tryz.ntmps43
    go_wp2_with fail
    refine C.out.mono ?_; rintro e w1 ⟨rfl, hb⟩
    go_wp2
    go_ret
    exact ⟨ret_str HF.out, hb⟩
  · have HF := Lib.hid (show t = bs (two n) from by rw [ht]; exact two_bs2 c)
    clear ht
    go_enter Tryz.func43, Tryz.ntmps43
    go_wp2_with fail
    refine C.out.mono ?_; rintro e w1 ⟨rfl, hb⟩
    go_wp2
    go_ret
    exact ⟨ret_str HF.out, hb⟩
set_option maxRecDepth 100000 in
set_option maxHeartbeats 400000 in
theorem rprint_ok (t : Int) (ho : isTm t = true) (w : World) :
    Calls Tryz.prog 25 #[.int .i64 t] w fun e w' => e = .returned (.tuple #[.string (bs (timeText t)), .int .i64 0]) ∧ Below w.heap.size w w' := by
  have C0 := Lib.hid (rsplit_ok t ho w)
  have ho' := ho
  unfold isTm at ho'
  obtain ⟨h1, h2⟩ := of_decide_eq_true ho'
  obtain ⟨x, hx⟩ : ∃ x, x = bs (Lib.itoa (t / 1440)) := ⟨_, rfl⟩
  obtain ⟨y, hy⟩ : ∃ y, y = bs (two (t % 1440 / 60)) := ⟨_, rfl⟩
  obtain ⟨z, hz⟩ : ∃ z, z = bs (two (t % 60)) := ⟨_, rfl⟩
  have kx : x.size ≤ 21 := by rw [hx]; exact itoa_size (by omega) (by omega)
  have ky : y.size ≤ 2 := by rw [hy]; exact two_size (by omega) (by omega)
  have kz : z.size ≤ 2 := by rw [hz]; exact two_size (by omega) (by omega)
  have C1 := Lib.hid (fun w => rtext_at (t / 1440) x hx w (by omega) (by omega))
  have C2 := Lib.hid (fun w => rtwo_at (t % 1440 / 60) y hy w (by omega) (by omega))
  have C3 := Lib.hid (fun w => rtwo_at (t % 60) z hz w (by omega) (by omega))
  have HF := Lib.hid (show x ++ ({ data := #[47] } : ByteArray) ++ y ++ ({ data := #[58] } : ByteArray) ++ z = bs (timeText t) from by rw [hx, hy, hz]; exact text_parts t)
  clear ho ho' hx hy hz
  go_enter Tryz.func25, Tryz.ntmps25
  go_wp2_with fail
  refine C0.out.mono ?_; rintro e w' ⟨rfl, rfl⟩
  go_wp2_with fail
  refine (C1.out _).mono ?_; rintro e w1 ⟨rfl, hb1⟩
  go_wp2_with fail
  refine (C2.out _).mono ?_; rintro e w2 ⟨rfl, hb2⟩
  go_wp2_with fail
  refine (C3.out _).mono ?_; rintro e w3 ⟨rfl, hb3⟩
  go_wp2
  go_ret2
  exact ⟨ret_text HF.out 0, (hb1.trans (hb2.mono hb1.size)).trans (hb3.mono (Nat.le_trans hb1.size hb2.size))⟩
set_option maxRecDepth 100000 in
theorem rprint_no (t : Int) (ho : isTm t = false) (w : World) :
    Calls Tryz.prog 25 #[.int .i64 t] w fun e w' => e = .returned (.tuple #[.string (bs []), .int .i64 11]) ∧ Below w.heap.size w w' := by
  have C0 := Lib.hid (rsplit_no t ho w)
  clear ho
  go_enter Tryz.func25, Tryz.ntmps25
  go_wp2_with fail
  refine C0.out.mono ?_; rintro e w' ⟨rfl, rfl⟩
  go_wp2
  go_ret2
  exact ⟨rfl, Below.refl _ _⟩

end Go.Proofs.YthdjpmiohfaphaaGreatDoor.cal

/- A drawn region by an invariant, second form: a slot that the region writes holds, till then, what it held. No program in this text. -/
namespace Go.Proofs.YthdjpmiohfaphaaGreatDoor.inv

def StepOk2 (P : Program) (ops : Array Oper) (Q : Exit → Act → World → Prop) (a : Act) (S : (Nat → Bool) → World → Prop) (D : Nat → Value → World → Prop) (i : Nat) (o : Oper) : Prop :=
  ∀ vs w (done : Nat → Bool), S done w → (∀ j, (waits ops i).contains j = true → D j (vs j) w) → (∀ j, (waits ops j).contains i = true → done j = false) → (∀ j, j < ops.size → done j = false → vs j = held a ops j) → (∀ j, j < ops.size → done j = true → ∀ k, (waits ops j).contains k = true → done k = true) → done i = false → ∀ K : Act → World → Prop,
    (∀ v w' a', (putL (dsts ops) a vs).put o.dst v = a' → S (fun j => if j = i then true else done j) w' → D i v w' → (∀ j v', j ≠ i → done j = true → D j v' w → D j v' w') → K a' w') →
    if Region.wanted o (yielded ops (putL (dsts ops) a vs).tmps) = true then Oper.wp P o (putL (dsts ops) a vs) w K Q else K ((putL (dsts ops) a vs).put o.dst undef) w
/-- the rule: S is what holds of the world, by what has been done; D what an operation leaves in its slot. The operations are numbered; is: 0, 1, .. -/
theorem wp_region_inv20 {P : Program} {ops : Array Oper} {Q : Exit → Act → World → Prop} {id : Nat} {a : Act} {w : World} (S : (Nat → Bool) → World → Prop) (D : Nat → Value → World → Prop)
    (hm : P.follows .mixedOrders = true) (hok : okL (dsts ops) = true) (hlow : ((List.range ops.size).all fun i => (waits ops i).all (· < i)) = true) (hS : S (fun _ => false) w.drew) (hs : ∀ i o, ops[i]? = some o → StepOk2 P ops Q a S D i o)
    (hend : ∀ vs w' done, (∀ j, j < ops.size → done j = true) → S done w' → (∀ j, j < ops.size → D j (vs j) w') → Q .normal (putL (dsts ops) a vs) w') : (Code.region id ops true).wp P Q a w := by
  have hin : ∀ i o, ops[i]? = some o → (i, o.dst) ∈ dsts ops := fun i o ho => by
    unfold dsts
    rw [List.mem_map]
    exact ⟨i, List.mem_range.2 (by by_cases e : i < ops.size; exact e; rw [Array.getElem?_eq_none (by omega)] at ho; cases ho), by rw [ho]; rfl⟩
  have hget : ∀ (listed : Array Bool) i j, listed.size = ops.size → i < ops.size → (listed.setIfInBounds i true).getD j false = if j = i then true else listed.getD j false := fun listed i j hsz hi => by
    rw [Array.getD_eq_getD_getElem?, Array.getD_eq_getD_getElem?, Array.getElem?_setIfInBounds]
    by_cases e : j = i
    · subst e; rw [if_pos rfl, if_pos (by omega), if_pos rfl]; rfl
    · rw [if_neg (fun h => e h.symm), if_neg e]
  refine wp_region_any hm (inv_any (fun listed a' w' => listed.size = ops.size ∧ (∀ j, j < ops.size → listed.getD j false = true → ∀ k ∈ waits ops j, listed.getD k false = true) ∧ ∃ vs, a' = putL (dsts ops) a vs ∧ S (fun j => listed.getD j false) w' ∧ (∀ j, j < ops.size → listed.getD j false = true → D j (vs j) w') ∧ ∀ j, j < ops.size → listed.getD j false = false → vs j = held a ops j) ?_ ?_ _ _ _ _ ?_ ?_)
  · rintro listed a' w' ⟨hsz, hcl, vs, rfl, hS, hD, hH⟩ i hi
    obtain ⟨h1, h2, o, ho, h3⟩ := ready_is hi
    have hst := hs i o ho
    have hno : listed.getD i false = false := by
      rw [Array.getD_eq_getD_getElem?, Array.getElem?_eq_getElem (by omega)] at h2 ⊢
      simpa using h2
    have hbound : ∀ j, listed.getD j false = true → j < ops.size := fun j hj => by
      by_cases e : j < ops.size
      · exact e
      · rw [Array.getD_eq_getD_getElem?, Array.getElem?_eq_none (by omega)] at hj; simp at hj
    refine wpOp_step ho (fun K hK => ?_)
    refine hst vs w' _ hS (fun j hj => ?_) (fun j hj => ?_) hH (fun j hj hl k hk => hcl j hj hl k (by simpa using hk)) hno K (fun v w2 a2 ha hS2 hD2 hk => hK _ _ ⟨by simpa using hsz, fun j hj hl k hk2 => ?_, upd vs i v, ?_, ?_, fun j hj hl => ?_, fun j hj hl => ?_⟩)
    · have hjl := waits_listed ho h3 (by simpa using hj)
      exact hD j (hbound j hjl) hjl
    · cases e : listed.getD j false with
      | false => rfl
      | true =>
        have := hcl j (hbound j e) e i (by simpa using hj)
        rw [hno] at this; cases this
    · rw [hget listed i _ hsz h1] at hl ⊢
      by_cases e : k = i
      · rw [if_pos e]
      · rw [if_neg e]
        by_cases e2 : j = i
        · subst e2; exact waits_listed ho h3 hk2
        · rw [if_neg e2] at hl; exact hcl j hj hl k hk2
    · rw [← ha]; exact putL_upd hok (hin i o ho) a vs v
    · have e : (fun j => (listed.setIfInBounds i true).getD j false) = fun j => if j = i then true else listed.getD j false := funext fun j => hget listed i j hsz h1
      show S (fun j => (listed.setIfInBounds i true).getD j false) w2
      rw [e]; exact hS2
    · rw [hget listed i _ hsz h1] at hl
      by_cases e : j = i
      · subst e; rw [show upd vs j v j = v from if_pos rfl]; exact hD2
      · rw [show upd vs i v j = vs j from if_neg e]
        rw [if_neg e] at hl
        exact hk j _ e hl (hD j hj hl)
    · rw [hget listed i _ hsz h1] at hl
      by_cases e : j = i
      · rw [if_pos e] at hl; cases hl
      · rw [if_neg e] at hl
        rw [show upd vs i v j = vs j from if_neg e]
        exact hH j hj hl
  · rintro listed a' w' ⟨hsz, hcl, vs, rfl, hS, hD, hH⟩ hr
    have ha := all_listed hlow hsz hr
    exact hend vs w' _ ha hS (fun j hj => hD j hj (ha j hj))
  · unfold undone
    have := List.length_filter_le (fun i => !(Array.replicate ops.size false).getD i true) (List.range ops.size)
    simpa using this
  · have h0 : ∀ j, (Array.replicate ops.size false).getD j false = false := fun j => by
      rw [Array.getD_eq_getD_getElem?, Array.getElem?_replicate]
      split <;> rfl
    refine ⟨by simp, fun j hj hl => (by rw [h0] at hl; cases hl), held a ops, ?_, ?_, fun j hj hl => (by rw [h0] at hl; cases hl), fun _ _ _ => rfl⟩
    · symm
      refine putL_same a _ _ (fun i t hm => ?_)
      unfold dsts at hm
      rw [List.mem_map] at hm
      obtain ⟨k, _, e⟩ := hm
      injection e with e1 e2
      subst e1
      unfold held; rw [e2]
    · have e : (fun j => (Array.replicate ops.size false).getD j false) = fun _ => false := funext h0
      show S (fun j => (Array.replicate ops.size false).getD j false) w.drew
      rw [e]; exact hS
/-- one operation: the goal of its step -/
def StepL2 (P : Program) (l : List Oper) (Q : Exit → Act → World → Prop) (ts : List Value) (df : List Deferred) (S : (Nat → Bool) → World → Prop) (D : Nat → Value → World → Prop) (i : Nat) (o : Oper) : Prop :=
  ∀ vs w (done : Nat → Bool), S done w → (∀ j, (waits l.toArray i).contains j = true → D j (vs j) w) → (∀ j, (waits l.toArray j).contains i = true → done j = false) → (∀ j, j < l.length → done j = false → vs j = held ⟨ts.toArray, df⟩ l.toArray j) → (∀ j, j < l.length → done j = true → ∀ k, (waits l.toArray j).contains k = true → done k = true) → done i = false → ∀ K : Act → World → Prop,
    (∀ v w' a', (⟨(putT (dstsL 0 l) ts vs).toArray, df⟩ : Act).put o.dst v = a' → S (fun j => if j = i then true else done j) w' → D i v w' → (∀ j v', j ≠ i → done j = true → D j v' w → D j v' w') → K a' w') →
    if Region.wanted o (yielded l.toArray (putT (dstsL 0 l) ts vs).toArray) = true then Oper.wp P o ⟨(putT (dstsL 0 l) ts vs).toArray, df⟩ w K Q else K ((⟨(putT (dstsL 0 l) ts vs).toArray, df⟩ : Act).put o.dst undef) w
def StepsL2 (P : Program) (l : List Oper) (Q : Exit → Act → World → Prop) (ts : List Value) (df : List Deferred) (S : (Nat → Bool) → World → Prop) (D : Nat → Value → World → Prop) : Nat → List Oper → Prop
  | _, [] => True
  | i, o :: r => StepL2 P l Q ts df S D i o ∧ StepsL2 P l Q ts df S D (i + 1) r
theorem StepsL2.get {P : Program} {l : List Oper} {Q : Exit → Act → World → Prop} {ts : List Value} {df : List Deferred} {S : (Nat → Bool) → World → Prop} {D : Nat → Value → World → Prop} : ∀ (r : List Oper) (k : Nat), StepsL2 P l Q ts df S D k r → ∀ i o, r[i]? = some o → StepL2 P l Q ts df S D (i + k) o := by
  intro r
  induction r with
  | nil => intro k _ i o h; simp at h
  | cons x r ih =>
    intro k hs i o h
    cases i with
    | zero =>
      obtain rfl : x = o := by simpa using h
      rw [Nat.zero_add]; exact hs.1
    | succ i =>
      have := ih (k + 1) hs.2 i o (by simpa using h)
      rwa [show i + 1 + k = i + (k + 1) by omega]
/-- THE RULE: S is what holds of the world, by what has been done; D what an operation leaves in its slot -/
theorem wp_region_inv2 {P : Program} {l : List Oper} {Q : Exit → Act → World → Prop} {id : Nat} {ts : List Value} {df : List Deferred} {w : World} (S : (Nat → Bool) → World → Prop) (D : Nat → Value → World → Prop)
    (hm : P.follows .mixedOrders = true) (hok : (okL (dstsL 0 l) && ((List.range l.length).all fun i => (waits l.toArray i).all (· < i))) = true) (hS : S (fun _ => false) w.drew) (hs : StepsL2 P l Q ts df S D 0 l)
    (hend : ∀ vs w' done, (∀ j, j < l.length → done j = true) → S done w' → (∀ j, j < l.length → D j (vs j) w') → Q .normal ⟨(putT (dstsL 0 l) ts vs).toArray, df⟩ w') : (Code.region id l.toArray true).wp P Q ⟨ts.toArray, df⟩ w := by
  rw [Bool.and_eq_true] at hok
  refine wp_region_inv20 S D hm (by rw [dsts_list]; exact hok.1) (by simpa using hok.2) hS (fun i o ho => ?_) (fun vs w' done h1 h2 h3 => ?_)
  · have := StepsL2.get l 0 hs i o (by simpa using ho)
    intro vs w done h1 h2 h3 h4 h5 h6 K hK
    rw [dsts_list, putL_list] at hK ⊢
    exact this vs w done h1 h2 h3 (fun j hj hd => h4 j (by simpa using hj) hd) (fun j hj hd => h5 j (by simpa using hj) hd) h6 K hK
  · rw [dsts_list, putL_list]
    exact hend vs w' done (fun j hj => h1 j (by simpa using hj)) h2 (fun j hj => h3 j (by simpa using hj))
end Go.Proofs.YthdjpmiohfaphaaGreatDoor.inv

/- The walks of the reference of layer 5: Print. It computes what the plain facts say. No condition. -/
namespace Go.Proofs.YthdjpmiohfaphaaGreatDoor.reg
open Go.RowKit lex aggs kit net strs cal

theorem rprintP_snoc (L : List Pn) (p : Pn) : printP (L ++ [p]) = printP L ++ (Lib.join (pnW p) [32] ++ [10]) := by
  unfold printP
  rw [List.map_append, List.map_append, List.map_cons, List.map_nil, List.map_cons, List.map_nil, textOf_snoc]
theorem rline_bs (nm : ByteArray) (co : Int) (k : Nat) (fr un : Int) : (((((((((({ data := #[112, 101, 114, 115, 111, 110, 32] } : ByteArray) ++ nm) ++ ({ data := #[32, 99, 111, 109, 112, 97, 110, 121, 32] } : ByteArray)) ++ bs (Lib.itoa co)) ++ ({ data := #[32, 115, 107, 105, 108, 108, 115, 32] } : ByteArray)) ++ bs (letters k)) ++ ({ data := #[32, 102, 114, 111, 109, 32] } : ByteArray)) ++ bs (timeText fr)) ++ ({ data := #[32, 117, 110, 116, 105, 108, 32] } : ByteArray)) ++ bs (timeText un)) ++ ({ data := #[10] } : ByteArray) = bs (Lib.join (pnW ⟨nm, co, (k : Int), fr, un⟩) [32] ++ [10]) := by
  have h : nm = bs nm.data.toList := (bs_of nm).symm
  show (((((((((bs [112, 101, 114, 115, 111, 110, 32] ++ nm) ++ bs [32, 99, 111, 109, 112, 97, 110, 121, 32]) ++ bs (Lib.itoa co)) ++ bs [32, 115, 107, 105, 108, 108, 115, 32]) ++ bs (letters k)) ++ bs [32, 102, 114, 111, 109, 32]) ++ bs (timeText fr)) ++ bs [32, 117, 110, 116, 105, 108, 32]) ++ bs (timeText un)) ++ bs [10] = _
  rw [h]
  simp only [bs_append]
  congr 1
  simp [Lib.join, List.intercalate, pnW, wPerson, wCom, wSk, wFrom, wUntil, bs]
def DRp (x k : Nat) (co : Int) (t nm tx lt q3 q4 q8 q9 q13 q14 q16 q17 q19 q20 q21 ft ut : ByteArray) : Nat → Value → World → Prop
  | 0, v, _ => v = .string t
  | 1, v, _ => v = .pointer (some ⟨x, 0, none⟩)
  | 2, v, _ => v = .string nm
  | 3, v, _ => v = .string q3
  | 4, v, _ => v = .string q4
  | 5, v, _ => v = .pointer (some ⟨x, 1, none⟩)
  | 6, v, _ => v = .int .i64 co
  | 7, v, _ => v = .string tx
  | 8, v, _ => v = .string q8
  | 9, v, _ => v = .string q9
  | 10, v, _ => v = .pointer (some ⟨x, 2, none⟩)
  | 11, v, _ => v = .int .i64 (k : Int)
  | 12, v, _ => v = .string lt
  | 13, v, _ => v = .string q13
  | 14, v, _ => v = .string q14
  | 15, v, _ => v = .string ft
  | 16, v, _ => v = .string q16
  | 17, v, _ => v = .string q17
  | 18, v, _ => v = .string ut
  | 19, v, _ => v = .string q19
  | 20, v, _ => v = .string q20
  | 21, v, _ => v = .string q21
  | 22, v, _ => v = .string q21
  | _, _, _ => True
theorem DRp.kept {x k : Nat} {co : Int} {t nm tx lt q3 q4 q8 q9 q13 q14 q16 q17 q19 q20 q21 ft ut : ByteArray} {W W' : World} : ∀ j v, DRp x k co t nm tx lt q3 q4 q8 q9 q13 q14 q16 q17 q19 q20 q21 ft ut j v W → DRp x k co t nm tx lt q3 q4 q8 q9 q13 q14 q16 q17 q19 q20 q21 ft ut j v W'
  | 0, _, h | 1, _, h | 2, _, h | 3, _, h | 4, _, h | 5, _, h | 6, _, h | 7, _, h | 8, _, h | 9, _, h | 10, _, h | 11, _, h | 12, _, h | 13, _, h | 14, _, h | 15, _, h | 16, _, h | 17, _, h | 18, _, h | 19, _, h | 20, _, h | 21, _, h | 22, _, h | _ + 23, _, h => h
set_option maxRecDepth 100000 in
set_option maxHeartbeats 8000000 in
theorem rprint_good (a : Option Addr) (N c : Nat) (ps : List Pn) (w : World) (h : RegIn w a N c ps) (hok : Ok ps) :
    Calls Tryz.prog 9 #[.agg #[.slice a N c]] w fun e w' => e = .returned (.tuple #[.string (bs (printP ps)), .int .i64 0]) ∧ Below w.heap.size w w' := by
  have bx := below_box w (.cells #[.slice a N c] 25)
  have NT := Lib.hid (OneAt.new w (.slice a N c) 25)
  have HN := Lib.hid (fun wr (bel : Below w.heap.size w wr) => h.below bel)
  have CK := Lib.hid (rcheck_is a N c ps 0 _ (h.below bx) (chkP_zero.2 hok))
  have hN := hok.len
  rw [h.len] at hN
  have LN := Lib.hid h.len
  have AL := Lib.hid hok.all
  have BX := Lib.hid bx
  clear h hok bx
  go_enter Tryz.func9, Tryz.ntmps9
  go_wp2_with fail
  refine CK.out.mono ?_; rintro e w1 ⟨rfl, b1⟩
  have B1 : Hid (Below (w.heap.size + 1) (w.alloc (.cells #[.slice a N c] 25)) w1) := by show Below _ _ _; simpa using b1
  clear b1
  go_wp2_with fail
  go_loopw [5, 6] (fun tv iv wr => ∃ (j : Nat) (t : ByteArray), j ≤ N ∧ iv = .int .i64 j ∧ tv = .string t ∧ t.size ≤ 411 * j ∧ Hid (t = bs (printP (ps.take j))) ∧ Hid (Below (w.heap.size + 1) (w.alloc (.cells #[.slice a N c] 25)) wr)) (fun _ i _ => N - (intOf i).toNat)
  case atStart => exact ⟨0, _, Nat.zero_le _, rfl, rfl, by simp [ByteArray.size], rfl, B1⟩
  case round =>
    clear B1
    obtain ⟨j, t, hj, rfl, rfl, htz, ht, bel⟩ := hrel
    obtain ⟨q1, q2⟩ := NT.out.below bel.out (Nat.lt_succ_self _)
    have BL := Lib.hid (BX.out.trans (bel.out.mono (by omega)))
    by_cases hjn : j < N
    · have hjl : j < ps.length := by rw [LN.out]; exact hjn
      obtain ⟨g, o, rfl, hg, hcs⟩ := (HN.out _ BL.out).rin.some (by omega)
      obtain ⟨c0, c1, c2, c3, c4⟩ := cells_pn hcs j hjl
      have he := AL.out _ (List.getElem_mem hjl)
      have hp := pn_line he
      obtain ⟨-, ⟨⟨c00, c01⟩, s0, s1⟩, f0, f1, u1⟩ := pnE_zero.1 he
      have hnx := Lib.hid (fun ln (e : ln = bs (Lib.join (pnW ps[j]) [32] ++ [10])) => (show t ++ ln = bs (printP (ps.take (j + 1))) from by
        rw [List.take_succ_eq_append_getElem hjl, ht.out, e, rprintP_snoc, bs_append]))
      generalize ps[j] = p at *
      obtain ⟨nm, co, sk, fr, un⟩ := p
      dsimp only at c0 c1 c2 c3 c4 c00 c01 s0 s1 f0 f1 u1
      obtain ⟨k, rfl⟩ : ∃ k : Nat, sk = k := ⟨sk.toNat, by omega⟩
      have hk : k < 32 := by omega
      have hfr : isTm fr = true := decide_eq_true (by omega)
      have hun : isTm un = true := decide_eq_true (by omega)
      have RL := rline_bs nm co k fr un
      have hz : (bs (Lib.join (pnW ⟨nm, co, (k : Int), fr, un⟩) [32] ++ [10])).size ≤ 411 := by rw [bs_size, List.length_append]; simp; omega
      have P1 := Lib.hid (fun W => rprint_ok fr hfr W)
      have P2 := Lib.hid (fun W => rprint_ok un hun W)
      have LTI0 := fun W => rletters_is k hk W
      obtain ⟨tx, htx⟩ : ∃ z, bs (Lib.itoa co) = z := ⟨_, rfl⟩
      obtain ⟨lt, hlt⟩ : ∃ z, bs (letters k) = z := ⟨_, rfl⟩
      obtain ⟨ft, hft⟩ : ∃ z, bs (timeText fr) = z := ⟨_, rfl⟩
      obtain ⟨ut, hut⟩ : ∃ z, bs (timeText un) = z := ⟨_, rfl⟩
      rw [hft] at P1
      rw [hut] at P2
      rw [hlt] at LTI0
      have LTI := Lib.hid LTI0
      have HTX : Hid (tx = bs (Lib.itoa co)) := htx.symm
      rw [htx, hlt, hft, hut] at RL
      obtain ⟨q3, e3⟩ : ∃ z, ({ data := #[112, 101, 114, 115, 111, 110, 32] } : ByteArray) ++ nm = z := ⟨_, rfl⟩
      (try rw [e3] at RL)
      obtain ⟨q4, e4⟩ : ∃ z, q3 ++ ({ data := #[32, 99, 111, 109, 112, 97, 110, 121, 32] } : ByteArray) = z := ⟨_, rfl⟩
      (try rw [e4] at RL)
      obtain ⟨q8, e8⟩ : ∃ z, q4 ++ tx = z := ⟨_, rfl⟩
      (try rw [e8] at RL)
      obtain ⟨q9, e9⟩ : ∃ z, q8 ++ ({ data := #[32, 115, 107, 105, 108, 108, 115, 32] } : ByteArray) = z := ⟨_, rfl⟩
      (try rw [e9] at RL)
      obtain ⟨q13, e13⟩ : ∃ z, q9 ++ lt = z := ⟨_, rfl⟩
      (try rw [e13] at RL)
      obtain ⟨q14, e14⟩ : ∃ z, q13 ++ ({ data := #[32, 102, 114, 111, 109, 32] } : ByteArray) = z := ⟨_, rfl⟩
      (try rw [e14] at RL)
      obtain ⟨q16, e16⟩ : ∃ z, q14 ++ ft = z := ⟨_, rfl⟩
      (try rw [e16] at RL)
      obtain ⟨q17, e17⟩ : ∃ z, q16 ++ ({ data := #[32, 117, 110, 116, 105, 108, 32] } : ByteArray) = z := ⟨_, rfl⟩
      (try rw [e17] at RL)
      obtain ⟨q19, e19⟩ : ∃ z, q17 ++ ut = z := ⟨_, rfl⟩
      (try rw [e19] at RL)
      obtain ⟨q20, e20⟩ : ∃ z, q19 ++ ({ data := #[10] } : ByteArray) = z := ⟨_, rfl⟩
      (try rw [e20] at RL)
      have HX := hnx.out q20 RL
      rw [← RL] at hz
      have z20 : q19.size + 1 ≤ 411 := by rw [← e20, ByteArray.size_append] at hz; exact hz
      have z19 : q17.size + ut.size = q19.size := by rw [← e19, ByteArray.size_append]
      have z17 : q16.size + 7 = q17.size := by rw [← e17, ByteArray.size_append]; rfl
      have z16 : q14.size + ft.size = q16.size := by rw [← e16, ByteArray.size_append]
      have z14 : q13.size + 6 = q14.size := by rw [← e14, ByteArray.size_append]; rfl
      have z13 : q9.size + lt.size = q13.size := by rw [← e13, ByteArray.size_append]
      have z9 : q8.size + 8 = q9.size := by rw [← e9, ByteArray.size_append]; rfl
      have z8 : q4.size + tx.size = q8.size := by rw [← e8, ByteArray.size_append]
      have z4 : q3.size + 9 = q4.size := by rw [← e4, ByteArray.size_append]; rfl
      have z3 : 7 + nm.size = q3.size := by rw [← e3, ByteArray.size_append]; rfl
      obtain ⟨q21, e21⟩ : ∃ z, t ++ q20 = z := ⟨_, rfl⟩
      have z21 : t.size + q20.size = q21.size := by rw [← e21, ByteArray.size_append]
      rw [e21] at HX
      have n20b : ¬ 9223372036854775807 < q19.size + 1 := by omega
      have n3 : ¬ 9223372036854775807 < q3.size := by omega
      have n4 : ¬ 9223372036854775807 < q4.size := by omega
      have n8 : ¬ 9223372036854775807 < q8.size := by omega
      have n9 : ¬ 9223372036854775807 < q9.size := by omega
      have n13 : ¬ 9223372036854775807 < q13.size := by omega
      have n14 : ¬ 9223372036854775807 < q14.size := by omega
      have n16 : ¬ 9223372036854775807 < q16.size := by omega
      have n17 : ¬ 9223372036854775807 < q17.size := by omega
      have n19 : ¬ 9223372036854775807 < q19.size := by omega
      have n20 : ¬ 9223372036854775807 < q20.size := by omega
      have n21 : ¬ 9223372036854775807 < q21.size := by omega
      have HXX := Lib.hid HX
      have PA0 := PnAt.new wr ⟨nm, co, k, fr, un⟩ 27
      have bxx := below_box wr (.cells #[.string nm, .int .i64 co, .int .i64 (k : Int), .int .i64 fr, .int .i64 un] 27)
      obtain ⟨x, hx⟩ : ∃ x, wr.heap.size = x := ⟨_, rfl⟩
      obtain ⟨W1, hW1⟩ : ∃ W, wr.alloc (.cells #[.string nm, .int .i64 co, .int .i64 (k : Int), .int .i64 fr, .int .i64 un] 27) = W := ⟨_, rfl⟩
      have hs1 : W1.heap.size = x + 1 := by rw [← hW1, ← hx]; simp
      dsimp only at PA0
      rw [hW1] at bxx PA0
      rw [hx] at PA0 bxx
      have HS1 := Lib.hid hs1
      have CP0 : Hid (∀ W, Below (x + 1) W1 W → W.cell? ⟨x, 0, none⟩ = some (.string nm) ∧ W.cell? ⟨x, 1, none⟩ = some (.int .i64 co) ∧ W.cell? ⟨x, 2, none⟩ = some (.int .i64 (k : Int)) ∧ W.cell? ⟨x, 3, none⟩ = some (.int .i64 fr) ∧ W.cell? ⟨x, 4, none⟩ = some (.int .i64 un)) := fun W b => by
        obtain ⟨q0, q1, q2, q3, q4, -⟩ := PA0.below b (by omega)
        exact ⟨q0, q1, q2, q3, q4⟩
      have CP : Hid (∀ W, Below (x + 1) W1 W → W.cell? ⟨x, 0, none⟩ = some (.string nm) ∧ W.cell? ⟨x, 1, none⟩ = some (.int .i64 co) ∧ W.cell? ⟨x, 2, none⟩ = some (.int .i64 (k : Int))) := fun W b => ⟨(CP0.out W b).1, (CP0.out W b).2.1, (CP0.out W b).2.2.1⟩
      have hBS := bel.out.size
      rw [World.size_alloc, hx] at hBS
      have BW1 : Hid (Below (w.heap.size + 1) (w.alloc (.cells #[.slice (some ⟨g, o, none⟩) N c] 25)) W1) := bel.out.trans (bxx.mono hBS)
      have hBS2 := Lib.hid hBS
      clear hnx ht he hcs hg hjl hp htx hlt hft hut RL LTI0 HX PA0 bxx hs1 hBS
      have d3 := (CP0.out W1 (Below.refl _ _)).2.2.2.1
      go_wp2_with fail
      (try rw [hW1])
      (try rw [hx])
      clear hW1 hx c0 c1 c2 c3 c4
      refine (P1.out _).mono ?_; rintro e V1 ⟨rfl, b1⟩
      have V1B : Hid (Below (x + 1) W1 V1) := b1.mono (by rw [HS1.out]; exact Nat.le_refl _)
      have d4 := (CP0.out V1 V1B.out).2.2.2.2
      clear b1 d3
      go_wp2_with fail
      refine (P2.out _).mono ?_; rintro e V2 ⟨rfl, b2⟩
      have V2B : Hid (Below (x + 1) W1 V2) := V1B.out.trans (b2.mono (by have := V1B.out.size; have := HS1.out; omega))
      have V2D : Hid (Below (x + 1) W1 V2.drew) := V2B.out.drew
      clear b2 d4
      go_wp2
      refine inv.wp_region_inv2 (fun _ W => Below (x + 1) W1 W) (DRp x k co t nm tx lt q3 q4 q8 q9 q13 q14 q16 q17 q19 q20 q21 ft ut) (by kernel_rfl) (by kernel_rfl) V2D.out ?steps ?rest
      case steps =>
        refine ⟨fun vs W done hS hD hno hold hcl hme K hK => ?_, fun vs W done hS hD hno hold hcl hme K hK => ?_, fun vs W done hS hD hno hold hcl hme K hK => ?_, fun vs W done hS hD hno hold hcl hme K hK => ?_, fun vs W done hS hD hno hold hcl hme K hK => ?_, fun vs W done hS hD hno hold hcl hme K hK => ?_, fun vs W done hS hD hno hold hcl hme K hK => ?_, fun vs W done hS hD hno hold hcl hme K hK => ?_, fun vs W done hS hD hno hold hcl hme K hK => ?_, fun vs W done hS hD hno hold hcl hme K hK => ?_, fun vs W done hS hD hno hold hcl hme K hK => ?_, fun vs W done hS hD hno hold hcl hme K hK => ?_, fun vs W done hS hD hno hold hcl hme K hK => ?_, fun vs W done hS hD hno hold hcl hme K hK => ?_, fun vs W done hS hD hno hold hcl hme K hK => ?_, fun vs W done hS hD hno hold hcl hme K hK => ?_, fun vs W done hS hD hno hold hcl hme K hK => ?_, fun vs W done hS hD hno hold hcl hme K hK => ?_, fun vs W done hS hD hno hold hcl hme K hK => ?_, fun vs W done hS hD hno hold hcl hme K hK => ?_, fun vs W done hS hD hno hold hcl hme K hK => ?_, fun vs W done hS hD hno hold hcl hme K hK => ?_, fun vs W done hS hD hno hold hcl hme K hK => ?_, trivial⟩
        · clear hcl; simp only [inv.dstsL, inv.putT, Nat.reduceAdd, List.set_cons_zero, List.set_cons_succ]
          have hh : vs 22 = .string t := hold 22 (by decide) (hno 22 (by kernel_rfl))
          rw [hh]
          go_simp
          exact hK _ _ _ (by simp only [hh, inv.dstsL, inv.putT, Nat.reduceAdd, List.set_cons_zero, List.set_cons_succ]; (try rfl)) (hS) (rfl) (fun _ _ _ _ h => h)
        · clear hold; clear hcl; simp only [inv.dstsL, inv.putT, Nat.reduceAdd, List.set_cons_zero, List.set_cons_succ]
          go_simp
          exact hK _ _ _ (by simp only [inv.dstsL, inv.putT, Nat.reduceAdd, List.set_cons_zero, List.set_cons_succ]; (try rfl)) (hS) (rfl) (fun _ _ _ _ h => h)
        · clear hold; clear hcl; simp only [inv.dstsL, inv.putT, Nat.reduceAdd, List.set_cons_zero, List.set_cons_succ]
          have h1 : (vs 1) = .pointer (some ⟨x, 0, none⟩) := hD 1 (by kernel_rfl)
          obtain ⟨k0, k1, k2⟩ := CP.out W hS
          rw [h1]
          go_simp
          exact hK _ _ _ (by simp only [inv.dstsL, inv.putT, Nat.reduceAdd, List.set_cons_zero, List.set_cons_succ, h1]; (try rfl)) (hS) (rfl) (fun _ _ _ _ h => h)
        · clear hold; clear hcl; simp only [inv.dstsL, inv.putT, Nat.reduceAdd, List.set_cons_zero, List.set_cons_succ]
          have h2 : (vs 2) = .string nm := hD 2 (by kernel_rfl)
          rw [h2]
          go_simp
          exact hK _ _ _ (by simp only [inv.dstsL, inv.putT, Nat.reduceAdd, List.set_cons_zero, List.set_cons_succ, h2]; (try rfl)) (hS) (rfl) (fun _ _ _ _ h => h)
        · clear hold; clear hcl; simp only [inv.dstsL, inv.putT, Nat.reduceAdd, List.set_cons_zero, List.set_cons_succ]
          have h3 : (vs 3) = .string q3 := hD 3 (by kernel_rfl)
          rw [h3]
          go_simp
          exact hK _ _ _ (by simp only [inv.dstsL, inv.putT, Nat.reduceAdd, List.set_cons_zero, List.set_cons_succ, h3]; (try rfl)) (hS) (rfl) (fun _ _ _ _ h => h)
        · clear hold; clear hcl; simp only [inv.dstsL, inv.putT, Nat.reduceAdd, List.set_cons_zero, List.set_cons_succ]
          go_simp
          exact hK _ _ _ (by simp only [inv.dstsL, inv.putT, Nat.reduceAdd, List.set_cons_zero, List.set_cons_succ]; (try rfl)) (hS) (rfl) (fun _ _ _ _ h => h)
        · clear hold; clear hcl; simp only [inv.dstsL, inv.putT, Nat.reduceAdd, List.set_cons_zero, List.set_cons_succ]
          have h5 : (vs 5) = .pointer (some ⟨x, 1, none⟩) := hD 5 (by kernel_rfl)
          obtain ⟨k0, k1, k2⟩ := CP.out W hS
          rw [h5]
          go_simp
          exact hK _ _ _ (by simp only [inv.dstsL, inv.putT, Nat.reduceAdd, List.set_cons_zero, List.set_cons_succ, h5]; (try rfl)) (hS) (rfl) (fun _ _ _ _ h => h)
        · clear hold; clear hcl; simp only [inv.dstsL, inv.putT, Nat.reduceAdd, List.set_cons_zero, List.set_cons_succ]
          have h6 : (vs 6) = .int .i64 co := hD 6 (by kernel_rfl)
          rw [h6]
          go_simp
          refine (rtext_at co tx HTX.out W (by omega) (by omega)).mono ?_; rintro e W2 ⟨rfl, b2⟩
          exact hK _ _ _ (by simp only [inv.dstsL, inv.putT, Nat.reduceAdd, List.set_cons_zero, List.set_cons_succ, h6]; (try rfl)) (hS.trans (b2.mono (by have := hS.size; have := HS1.out; omega))) (rfl) (fun j v _ _ => (DRp.kept) j v)
        · clear hold; clear hcl; simp only [inv.dstsL, inv.putT, Nat.reduceAdd, List.set_cons_zero, List.set_cons_succ]
          have h4 : (vs 4) = .string q4 := hD 4 (by kernel_rfl)
          have h7 : (vs 7) = .string tx := hD 7 (by kernel_rfl)
          rw [h4, h7]
          go_simp
          exact hK _ _ _ (by simp only [inv.dstsL, inv.putT, Nat.reduceAdd, List.set_cons_zero, List.set_cons_succ, h4, h7]; (try rfl)) (hS) (rfl) (fun _ _ _ _ h => h)
        · clear hold; clear hcl; simp only [inv.dstsL, inv.putT, Nat.reduceAdd, List.set_cons_zero, List.set_cons_succ]
          have h8 : (vs 8) = .string q8 := hD 8 (by kernel_rfl)
          rw [h8]
          go_simp
          exact hK _ _ _ (by simp only [inv.dstsL, inv.putT, Nat.reduceAdd, List.set_cons_zero, List.set_cons_succ, h8]; (try rfl)) (hS) (rfl) (fun _ _ _ _ h => h)
        · clear hold; clear hcl; simp only [inv.dstsL, inv.putT, Nat.reduceAdd, List.set_cons_zero, List.set_cons_succ]
          go_simp
          exact hK _ _ _ (by simp only [inv.dstsL, inv.putT, Nat.reduceAdd, List.set_cons_zero, List.set_cons_succ]; (try rfl)) (hS) (rfl) (fun _ _ _ _ h => h)
        · clear hold; clear hcl; simp only [inv.dstsL, inv.putT, Nat.reduceAdd, List.set_cons_zero, List.set_cons_succ]
          have h10 : (vs 10) = .pointer (some ⟨x, 2, none⟩) := hD 10 (by kernel_rfl)
          obtain ⟨k0, k1, k2⟩ := CP.out W hS
          rw [h10]
          go_simp
          exact hK _ _ _ (by simp only [inv.dstsL, inv.putT, Nat.reduceAdd, List.set_cons_zero, List.set_cons_succ, h10]; (try rfl)) (hS) (rfl) (fun _ _ _ _ h => h)
        · clear hold; clear hcl; simp only [inv.dstsL, inv.putT, Nat.reduceAdd, List.set_cons_zero, List.set_cons_succ]
          have h11 : (vs 11) = .int .i64 (k : Int) := hD 11 (by kernel_rfl)
          rw [h11]
          go_simp
          refine (LTI.out W).mono ?_; rintro e W2 ⟨rfl, b2⟩
          exact hK _ _ _ (by simp only [inv.dstsL, inv.putT, Nat.reduceAdd, List.set_cons_zero, List.set_cons_succ, h11]; (try rfl)) (hS.trans (b2.mono (by have := hS.size; have := HS1.out; omega))) (rfl) (fun j v _ _ => (DRp.kept) j v)
        · clear hold; clear hcl; simp only [inv.dstsL, inv.putT, Nat.reduceAdd, List.set_cons_zero, List.set_cons_succ]
          have h9 : (vs 9) = .string q9 := hD 9 (by kernel_rfl)
          have h12 : (vs 12) = .string lt := hD 12 (by kernel_rfl)
          rw [h9, h12]
          go_simp
          exact hK _ _ _ (by simp only [inv.dstsL, inv.putT, Nat.reduceAdd, List.set_cons_zero, List.set_cons_succ, h9, h12]; (try rfl)) (hS) (rfl) (fun _ _ _ _ h => h)
        · clear hold; clear hcl; simp only [inv.dstsL, inv.putT, Nat.reduceAdd, List.set_cons_zero, List.set_cons_succ]
          have h13 : (vs 13) = .string q13 := hD 13 (by kernel_rfl)
          rw [h13]
          go_simp
          exact hK _ _ _ (by simp only [inv.dstsL, inv.putT, Nat.reduceAdd, List.set_cons_zero, List.set_cons_succ, h13]; (try rfl)) (hS) (rfl) (fun _ _ _ _ h => h)
        · clear hold; clear hcl; simp only [inv.dstsL, inv.putT, Nat.reduceAdd, List.set_cons_zero, List.set_cons_succ]
          go_simp
          exact hK _ _ _ (by simp only [inv.dstsL, inv.putT, Nat.reduceAdd, List.set_cons_zero, List.set_cons_succ]; (try rfl)) (hS) (rfl) (fun _ _ _ _ h => h)
        · clear hold; clear hcl; simp only [inv.dstsL, inv.putT, Nat.reduceAdd, List.set_cons_zero, List.set_cons_succ]
          have h14 : (vs 14) = .string q14 := hD 14 (by kernel_rfl)
          have h15 : (vs 15) = .string ft := hD 15 (by kernel_rfl)
          rw [h14, h15]
          go_simp
          exact hK _ _ _ (by simp only [inv.dstsL, inv.putT, Nat.reduceAdd, List.set_cons_zero, List.set_cons_succ, h14, h15]; (try rfl)) (hS) (rfl) (fun _ _ _ _ h => h)
        · clear hold; clear hcl; simp only [inv.dstsL, inv.putT, Nat.reduceAdd, List.set_cons_zero, List.set_cons_succ]
          have h16 : (vs 16) = .string q16 := hD 16 (by kernel_rfl)
          rw [h16]
          go_simp
          exact hK _ _ _ (by simp only [inv.dstsL, inv.putT, Nat.reduceAdd, List.set_cons_zero, List.set_cons_succ, h16]; (try rfl)) (hS) (rfl) (fun _ _ _ _ h => h)
        · clear hold; clear hcl; simp only [inv.dstsL, inv.putT, Nat.reduceAdd, List.set_cons_zero, List.set_cons_succ]
          go_simp
          exact hK _ _ _ (by simp only [inv.dstsL, inv.putT, Nat.reduceAdd, List.set_cons_zero, List.set_cons_succ]; (try rfl)) (hS) (rfl) (fun _ _ _ _ h => h)
        · clear hold; clear hcl; simp only [inv.dstsL, inv.putT, Nat.reduceAdd, List.set_cons_zero, List.set_cons_succ]
          have h17 : (vs 17) = .string q17 := hD 17 (by kernel_rfl)
          have h18 : (vs 18) = .string ut := hD 18 (by kernel_rfl)
          rw [h17, h18]
          go_simp
          exact hK _ _ _ (by simp only [inv.dstsL, inv.putT, Nat.reduceAdd, List.set_cons_zero, List.set_cons_succ, h17, h18]; (try rfl)) (hS) (rfl) (fun _ _ _ _ h => h)
        · clear hold; clear hcl; simp only [inv.dstsL, inv.putT, Nat.reduceAdd, List.set_cons_zero, List.set_cons_succ]
          have h19 : (vs 19) = .string q19 := hD 19 (by kernel_rfl)
          rw [h19]
          go_simp
          exact hK _ _ _ (by simp only [inv.dstsL, inv.putT, Nat.reduceAdd, List.set_cons_zero, List.set_cons_succ, h19]; (try rfl)) (hS) (rfl) (fun _ _ _ _ h => h)
        · clear hold; clear hcl; simp only [inv.dstsL, inv.putT, Nat.reduceAdd, List.set_cons_zero, List.set_cons_succ]
          have h0 : (vs 0) = .string t := hD 0 (by kernel_rfl)
          have h20 : (vs 20) = .string q20 := hD 20 (by kernel_rfl)
          rw [h0, h20]
          go_simp
          exact hK _ _ _ (by simp only [inv.dstsL, inv.putT, Nat.reduceAdd, List.set_cons_zero, List.set_cons_succ, h0, h20]; (try rfl)) (hS) (rfl) (fun _ _ _ _ h => h)
        · clear hold; clear hcl; simp only [inv.dstsL, inv.putT, Nat.reduceAdd, List.set_cons_zero, List.set_cons_succ]
          have h21 : (vs 21) = .string q21 := hD 21 (by kernel_rfl)
          rw [h21]
          go_simp
          exact hK _ _ _ (by simp only [inv.dstsL, inv.putT, Nat.reduceAdd, List.set_cons_zero, List.set_cons_succ, h21]; (try rfl)) (hS) (rfl) (fun _ _ _ _ h => h)
      case rest =>
        intro vs W done hdone hS hD
        have h22 : vs 22 = .string q21 := hD 22 (by decide)
        have BW9 := Lib.hid (BW1.out.trans (hS.mono (by have := hBS2.out; omega)))
        simp only [inv.dstsL, inv.putT, Nat.reduceAdd, List.set_cons_zero, List.set_cons_succ]
        rw [h22]
        generalize vs 0 = y0, vs 1 = y1, vs 2 = y2, vs 3 = y3, vs 4 = y4, vs 5 = y5, vs 6 = y6, vs 7 = y7, vs 8 = y8, vs 9 = y9, vs 10 = y10, vs 11 = y11, vs 12 = y12, vs 13 = y13, vs 14 = y14, vs 15 = y15, vs 16 = y16, vs 17 = y17, vs 18 = y18, vs 19 = y19, vs 20 = y20, vs 21 = y21 at *
        clear n20b n3 n4 n8 n9 n13 n14 n16 n17 n19 n20 n21 hD hdone hS h22 e3 e4 e8 e9 e13 e14 e16 e17 e19 e20 e21
        go_wp2
        go_roundw
        case rel => exact ⟨j + 1, _, by omega, by go_num, rfl, by omega, HXX, BW9⟩
        case measure => simp [intOf]; omega
    · obtain rfl : N = j := by omega
      have HT : Hid (t = bs (printP ps)) := by
        show _ = _
        rw [ht.out, ← LN.out, List.take_length]
      clear ht
      go_wp2
      go_ret2
      exact ⟨by rw [← HT.out]; rfl, BL.out⟩
set_option maxRecDepth 100000 in
set_option maxHeartbeats 1000000 in
theorem rprint_bad (a : Option Addr) (N c : Nat) (ps : List Pn) (r : Int) (w : World) (h : RegIn w a N c ps) (hc : chkP ps = r) (hr : r ≠ 0) :
    Calls Tryz.prog 9 #[.agg #[.slice a N c]] w fun e w' => e = .returned (.tuple #[.string (bs []), .int .i64 r]) ∧ Below w.heap.size w w' := by
  have bx := below_box w (.cells #[.slice a N c] 25)
  have CK := Lib.hid (rcheck_is a N c ps r _ (h.below bx) hc)
  have T : (r != 0) = true := bne_iff_ne.2 hr
  have BX := Lib.hid bx
  clear h bx hr hc
  go_enter Tryz.func9, Tryz.ntmps9
  go_wp2_with fail
  refine CK.out.mono ?_; rintro e w1 ⟨rfl, b1⟩
  have B1 : Hid (Below w.heap.size w w1) := BX.out.trans (b1.mono BX.out.size)
  clear b1
  go_wp2
  go_ret2
  exact ⟨rfl, B1.out⟩
theorem rprint_is (a : Option Addr) (N c : Nat) (ps : List Pn) (w : World) (h : RegIn w a N c ps) :
    Calls Tryz.prog 9 #[.agg #[.slice a N c]] w fun e w' => e = .returned (.tuple #[.string (bs (prP ps)), .int .i64 (chkP ps)]) ∧ Below w.heap.size w w' := by
  unfold prP
  by_cases hc : chkP ps = 0
  · rw [if_pos hc, hc]; exact rprint_good a N c ps w h (chkP_zero.1 hc)
  · rw [if_neg hc]; exact rprint_bad a N c ps _ w h rfl hc
end Go.Proofs.YthdjpmiohfaphaaGreatDoor.reg

/- The walks of the reference of layer 2, third part: Parse. It computes what the program's own function computes. -/
namespace Go.Proofs.YthdjpmiohfaphaaGreatDoor.cal
open Go.RowKit strs lex

theorem six (s : ByteArray) (h : 7 ≤ s.size) : s.data.toList = s.data.toList.take (s.size - 6) ++ [s[s.size - 6], s[s.size - 5], s[s.size - 4], s[s.size - 3], s[s.size - 2], s[s.size - 1]] := by
  have hl : s.data.toList.length = s.size := by simp
  have e : ∀ k (hk : k < s.data.toList.length), s.data.toList.drop k = s[k]'(by omega) :: s.data.toList.drop (k + 1) := fun k hk => List.drop_eq_getElem_cons hk
  have e6 := e (s.size - 6) (by omega)
  have e5 := e (s.size - 5) (by omega)
  have e4 := e (s.size - 4) (by omega)
  have e3 := e (s.size - 3) (by omega)
  have e2 := e (s.size - 2) (by omega)
  have e1 := e (s.size - 1) (by omega)
  rw [show s.size - 6 + 1 = s.size - 5 from by omega, e5, show s.size - 5 + 1 = s.size - 4 from by omega, e4, show s.size - 4 + 1 = s.size - 3 from by omega, e3, show s.size - 3 + 1 = s.size - 2 from by omega, e2, show s.size - 2 + 1 = s.size - 1 from by omega, e1, show s.size - 1 + 1 = s.size from by omega, List.drop_eq_nil_of_le (i := s.size) (by omega)] at e6
  rw [← e6, List.take_append_drop]
theorem rp_is (s : ByteArray) (h : 7 ≤ s.size) : progB s.data.toList = refB (s.data.toList.take (s.size - 6)) s[s.size - 6] s[s.size - 5] s[s.size - 4] s[s.size - 3] s[s.size - 2] s[s.size - 1] := by
  rw [ref_prog, ← six s h]
theorem isD_no {x : UInt8} (h : x.toNat < 48 ∨ 57 < x.toNat) : isD x = false := by unfold isD; exact decide_eq_false (by omega)
theorem isD_yes {x : UInt8} (h : 48 ≤ x.toNat) (h1 : x.toNat ≤ 57) : isD x = true := decide_eq_true ⟨h, h1⟩
theorem not_byte {x c : UInt8} (h : x.toNat ≠ c.toNat) : decide (x = c) = false := decide_eq_false (fun e => h (by rw [e]))
theorem rp_bad (s : ByteArray) (h : 7 ≤ s.size) (hb : s[s.size - 6].toNat ≠ 47 ∨ s[s.size - 3].toNat ≠ 58 ∨ (s[s.size - 5].toNat < 48 ∨ 57 < s[s.size - 5].toNat) ∨ (s[s.size - 4].toNat < 48 ∨ 57 < s[s.size - 4].toNat) ∨ (s[s.size - 2].toNat < 48 ∨ 57 < s[s.size - 2].toNat) ∨ (s[s.size - 1].toNat < 48 ∨ 57 < s[s.size - 1].toNat)) :
    progB s.data.toList = false := by
  rw [rp_is s h]
  unfold refB
  rcases hb with hb | hb | hb | hb | hb | hb
  · rw [not_byte (c := 47) hb]; simp
  · rw [not_byte (c := 58) hb]; simp
  · rw [isD_no hb]; simp
  · rw [isD_no hb]; simp
  · rw [isD_no hb]; simp
  · rw [isD_no hb]; simp
theorem rp_good (s : ByteArray) (h : 7 ≤ s.size) (h1 : s[s.size - 6].toNat = 47) (h4 : s[s.size - 3].toNat = 58) (d2 : 48 ≤ s[s.size - 5].toNat ∧ s[s.size - 5].toNat ≤ 57) (d3 : 48 ≤ s[s.size - 4].toNat ∧ s[s.size - 4].toNat ≤ 57) (d5 : 48 ≤ s[s.size - 2].toNat ∧ s[s.size - 2].toNat ≤ 57) (d6 : 48 ≤ s[s.size - 1].toNat ∧ s[s.size - 1].toNat ≤ 57) :
    progB s.data.toList = (numB (s.data.toList.take (s.size - 6)) 16777216 && mkOk (val (s.data.toList.take (s.size - 6))) (10 * dg s[s.size - 5] + dg s[s.size - 4]) (10 * dg s[s.size - 2] + dg s[s.size - 1])) := by
  rw [rp_is s h]
  unfold refB
  rw [isD_yes d2.1 d2.2, isD_yes d3.1 d3.2, isD_yes d5.1 d5.2, isD_yes d6.1 d6.2, decide_eq_true (UInt8.toNat_inj.1 (h1.trans (show (47 : Nat) = (47 : UInt8).toNat from rfl))), decide_eq_true (UInt8.toNat_inj.1 (h4.trans (show (58 : Nat) = (58 : UInt8).toNat from rfl)))]
  simp
theorem rp_val (s : ByteArray) (h : 7 ≤ s.size) (hp : progB s.data.toList = true) : progV s.data.toList = 1440 * (val (s.data.toList.take (s.size - 6)) : Int) + 60 * (10 * dg s[s.size - 5] + dg s[s.size - 4]) + (10 * dg s[s.size - 2] + dg s[s.size - 1]) := by
  rw [rp_is s h] at hp
  have := ref_val hp
  rwa [← six s h] at this

set_option maxRecDepth 100000 in
theorem rparse_short (s : ByteArray) (h7 : s.size < 7) (w : World) :
    Calls Tryz.prog 60 #[.string s] w fun e w' => e = .returned (.tuple #[.int .i64 (paV s.data.toList), .int .i64 (paE s.data.toList)]) ∧ Below w.heap.size w w' := by
  have HN := Lib.hid (prog_short (l := s.data.toList) (by simpa using h7))
  have t1 : decide ((s.size : Int) < 7) = true := decide_eq_true (by omega)
  go_enter Tryz.func60, Tryz.ntmps60
  go_wp2
  go_ret2
  exact ⟨ret_pair (by unfold paV; rw [if_neg (by rw [HN.out]; exact Bool.false_ne_true)]) (by unfold paE; rw [if_neg (by rw [HN.out]; exact Bool.false_ne_true)]), Below.refl _ _⟩

set_option maxRecDepth 100000 in
set_option maxHeartbeats 1000000 in
/-- a separator is missing -/
theorem rparse_sep (s : ByteArray) (h7 : 7 ≤ s.size) (hl : s.size ≤ 4294967296) (hb : s[s.size - 6].toNat ≠ 47 ∨ s[s.size - 3].toNat ≠ 58) (w : World) :
    Calls Tryz.prog 60 #[.string s] w fun e w' => e = .returned (.tuple #[.int .i64 (paV s.data.toList), .int .i64 (paE s.data.toList)]) ∧ Below w.heap.size w w' := by
  have HN := Lib.hid (rp_bad s h7 (by omega))
  have t1 : decide ((s.size : Int) < 7) = false := decide_eq_false (by omega)
  by_cases c1 : s[s.size - 6].toNat = 47
  · have q1 : ((s[s.size - 6].toNat : Int) != 47) = false := by rw [c1]; rfl
    have q4 : ((s[s.size - 3].toNat : Int) != 58) = true := by rw [bne_iff_ne]; omega
    clear hb c1
    go_enter Tryz.func60, Tryz.ntmps60
    go_wp2
    go_ret2
    exact ⟨ret_pair (by unfold paV; rw [if_neg (by rw [HN.out]; exact Bool.false_ne_true)]) (by unfold paE; rw [if_neg (by rw [HN.out]; exact Bool.false_ne_true)]), Below.refl _ _⟩
  · have q1 : ((s[s.size - 6].toNat : Int) != 47) = true := by rw [bne_iff_ne]; omega
    clear hb c1
    go_enter Tryz.func60, Tryz.ntmps60
    go_wp2
    go_ret2
    exact ⟨ret_pair (by unfold paV; rw [if_neg (by rw [HN.out]; exact Bool.false_ne_true)]) (by unfold paE; rw [if_neg (by rw [HN.out]; exact Bool.false_ne_true)]), Below.refl _ _⟩

set_option maxRecDepth 100000 in
set_option maxHeartbeats 4000000 in
theorem rparse_walk (s : ByteArray) (h7 : 7 ≤ s.size) (hl : s.size ≤ 4294967296) (q1 : ((s[s.size - 6].toNat : Int) != 47) = false) (q4 : ((s[s.size - 3].toNat : Int) != 58) = false) (vd v x : Int) (td : Bool) (w : World)
    (HC : Hid (∀ w, Calls Tryz.prog 59 #[.string (s.extract 0 (s.size - 6)), .int .i64 16777216] w fun e w' => e = .returned (.tuple #[.int .i64 vd, .bool td]) ∧ w = w'))
    (HM : Hid (∀ w, Calls Tryz.prog 71 #[.int .i64 vd, .int .i64 (10 * (s[s.size - 5].toNat - 48) + (s[s.size - 4].toNat - 48)), .int .i64 (10 * (s[s.size - 2].toNat - 48) + (s[s.size - 1].toNat - 48))] w fun e w' => e = .returned (.tuple #[.int .i64 v, .int .i64 x]) ∧ w = w'))
    (HG : Hid ((48 ≤ s[s.size - 5].toNat ∧ s[s.size - 5].toNat ≤ 57) → (48 ≤ s[s.size - 4].toNat ∧ s[s.size - 4].toNat ≤ 57) → (48 ≤ s[s.size - 2].toNat ∧ s[s.size - 2].toNat ≤ 57) → (48 ≤ s[s.size - 1].toNat ∧ s[s.size - 1].toNat ≤ 57) →
      (td = true ∧ x = 0 ∧ paV s.data.toList = v ∧ paE s.data.toList = 0) ∨ ((td = false ∨ x ≠ 0) ∧ progB s.data.toList = false))) :
    Calls Tryz.prog 60 #[.string s] w fun e w' => e = .returned (.tuple #[.int .i64 (paV s.data.toList), .int .i64 (paE s.data.toList)]) ∧ Below w.heap.size w w' := by
  have t1 : decide ((s.size : Int) < 7) = false := decide_eq_false (by omega)
  go_enter Tryz.func60, Tryz.ntmps60
  go_wp2_with fail
  refine (HC.out _).mono ?_; rintro e w' ⟨rfl, rfl⟩
  go_wp2
  refine wp_loop_rounds 5 ?_
  rw [rounds_succ]
  go_wp2
  all_goals first
    | (go_ret2; refine ⟨ret_pair (by unfold paV; rw [if_neg (by rw [rp_bad s h7 (by omega)]; exact Bool.false_ne_true)]) (by unfold paE; rw [if_neg (by rw [rp_bad s h7 (by omega)]; exact Bool.false_ne_true)]), ?_⟩; exact ((Below.refl _ _).alloc (Nat.le_refl _) _).alloc (by simp) _)
    | skip
  rw [rounds_succ]
  go_wp2
  all_goals first
    | (go_ret2; refine ⟨ret_pair (by unfold paV; rw [if_neg (by rw [rp_bad s h7 (by omega)]; exact Bool.false_ne_true)]) (by unfold paE; rw [if_neg (by rw [rp_bad s h7 (by omega)]; exact Bool.false_ne_true)]), ?_⟩; exact ((Below.refl _ _).alloc (Nat.le_refl _) _).alloc (by simp) _)
    | skip
  rw [rounds_succ]
  go_wp2
  all_goals first
    | (go_ret2; refine ⟨ret_pair (by unfold paV; rw [if_neg (by rw [rp_bad s h7 (by omega)]; exact Bool.false_ne_true)]) (by unfold paE; rw [if_neg (by rw [rp_bad s h7 (by omega)]; exact Bool.false_ne_true)]), ?_⟩; exact ((Below.refl _ _).alloc (Nat.le_refl _) _).alloc (by simp) _)
    | skip
  rw [rounds_succ]
  go_wp2
  all_goals first
    | (go_ret2; refine ⟨ret_pair (by unfold paV; rw [if_neg (by rw [rp_bad s h7 (by omega)]; exact Bool.false_ne_true)]) (by unfold paE; rw [if_neg (by rw [rp_bad s h7 (by omega)]; exact Bool.false_ne_true)]), ?_⟩; exact ((Below.refl _ _).alloc (Nat.le_refl _) _).alloc (by simp) _)
    | skip
  rw [rounds_succ]
  go_wp2_with fail
  refine (HM.out _).mono ?_; rintro e w' ⟨rfl, rfl⟩
  rcases HG.out (by omega) (by omega) (by omega) (by omega) with ⟨rfl, rfl, hv, hx⟩ | ⟨h, hp⟩
  · have HV := Lib.hid hv
    have HX := Lib.hid hx
    clear hv hx
    go_wp2
    go_ret2
    refine ⟨ret_pair HV.out.symm HX.out.symm, ?_⟩
    exact ((Below.refl _ _).alloc (Nat.le_refl _) _).alloc (by simp) _
  · have HN := Lib.hid hp
    clear hp
    cases td with
    | false =>
      clear h
      go_wp2
      go_ret2
      refine ⟨ret_pair (by unfold paV; rw [if_neg (by rw [HN.out]; exact Bool.false_ne_true)]) (by unfold paE; rw [if_neg (by rw [HN.out]; exact Bool.false_ne_true)]), ?_⟩
      exact ((Below.refl _ _).alloc (Nat.le_refl _) _).alloc (by simp) _
    | true =>
      have tx : (x != 0) = true := by rw [bne_iff_ne]; rcases h with h | h; cases h; exact h
      clear h
      go_wp2
      go_ret2
      refine ⟨ret_pair (by unfold paV; rw [if_neg (by rw [HN.out]; exact Bool.false_ne_true)]) (by unfold paE; rw [if_neg (by rw [HN.out]; exact Bool.false_ne_true)]), ?_⟩
      exact ((Below.refl _ _).alloc (Nat.le_refl _) _).alloc (by simp) _
theorem rparse_any (s : ByteArray) (hl : s.size ≤ 4294967296) (w : World) :
    Calls Tryz.prog 60 #[.string s] w fun e w' => e = .returned (.tuple #[.int .i64 (paV s.data.toList), .int .i64 (paE s.data.toList)]) ∧ Below w.heap.size w w' := by
  by_cases h7 : 7 ≤ s.size
  · by_cases hb : s[s.size - 6].toNat ≠ 47 ∨ s[s.size - 3].toNat ≠ 58
    · exact rparse_sep s h7 hl hb w
    · have c1 : s[s.size - 6].toNat = 47 := by omega
      have c4 : s[s.size - 3].toNat = 58 := by omega
      have ext : (s.extract 0 (s.size - 6)).data.toList = s.data.toList.take (s.size - 6) := by rw [Lib.extract_data]; simp
      have hex : (s.extract 0 (s.size - 6)).size ≤ maxLen := by rw [ByteArray.size_extract]; unfold maxLen; omega
      obtain ⟨vd, hvd⟩ : ∃ v, numV (s.data.toList.take (s.size - 6)) 16777216 = v := ⟨_, rfl⟩
      obtain ⟨td, htd⟩ : ∃ v, numB (s.data.toList.take (s.size - 6)) 16777216 = v := ⟨_, rfl⟩
      obtain ⟨v, hv⟩ : ∃ v, mkV vd (10 * dg s[s.size - 5] + dg s[s.size - 4]) (10 * dg s[s.size - 2] + dg s[s.size - 1]) = v := ⟨_, rfl⟩
      obtain ⟨x, hx⟩ : ∃ v, mkE vd (10 * dg s[s.size - 5] + dg s[s.size - 4]) (10 * dg s[s.size - 2] + dg s[s.size - 1]) = v := ⟨_, rfl⟩
      refine rparse_walk s h7 hl (by rw [c1]; rfl) (by rw [c4]; rfl) vd v x td w ?_ ?_ ?_
      · intro w
        have := rnumber_any (s.extract 0 (s.size - 6)) 16777216 w hex (by omega) (by omega)
        rwa [ext, hvd, htd] at this
      · intro w; exact rmake_is _ _ _ v x hv hx w
      · intro d2 d3 d5 d6
        have hp := rp_good s h7 c1 c4 d2 d3 d5 d6
        rw [htd] at hp
        cases td with
        | false => right; exact ⟨.inl rfl, by rw [hp]; rfl⟩
        | true =>
          have evd : (val (s.data.toList.take (s.size - 6)) : Int) = vd := by rw [← hvd]; unfold numV; rw [if_pos htd]
          rw [evd, Bool.true_and] at hp
          by_cases ho : mkOk vd (10 * dg s[s.size - 5] + dg s[s.size - 4]) (10 * dg s[s.size - 2] + dg s[s.size - 1]) = true
          · left
            rw [ho] at hp
            have hpv := rp_val s h7 hp
            rw [evd] at hpv
            unfold mkE at hx
            unfold mkV at hv
            rw [if_pos ho] at hx hv
            refine ⟨rfl, hx.symm, ?_, ?_⟩
            · unfold paV; rw [if_pos hp, hpv, hv]
            · unfold paE; rw [if_pos hp]
          · right
            unfold mkE at hx
            rw [if_neg ho] at hx
            exact ⟨.inr (by omega), by rw [hp]; exact Bool.eq_false_iff.2 ho⟩
  · exact rparse_short s (by omega) w
theorem rparse_at (s : ByteArray) (l : List UInt8) (hs : s = bs l) (v x : Int) (hv : paV l = v) (hx : paE l = x) (hl : l.length ≤ 4294967296) (w : World) :
    Calls Tryz.prog 60 #[.string s] w fun e w' => e = .returned (.tuple #[.int .i64 v, .int .i64 x]) ∧ Below w.heap.size w w' := by
  subst hs hv hx
  have := rparse_any (bs l) (by rw [bs_size]; exact hl) w
  rwa [bs_data] at this
end Go.Proofs.YthdjpmiohfaphaaGreatDoor.cal

/- The walks of the reference of layer 5: person. It computes what the plain facts say. No condition. -/
namespace Go.Proofs.YthdjpmiohfaphaaGreatDoor.reg
open Go.RowKit lex aggs kit net strs cal

theorem eqW {l c : List UInt8} {y : ByteArray} {b : Bool} (hy : bs l = y) (hb : decide (l = c) = b) : (y.toList == c) = b := by
  rw [← hy, Lib.toList_data, bs_data, ← hb, Bool.eq_iff_iff]; simp
set_option maxRecDepth 100000 in
theorem rletters_same (k : Nat) (hk : k < 32) (w : World) :
    Calls Tryz.prog 27 #[.int .i64 k] w fun e w' => e = .returned (.string (bs (letters k))) ∧ w' = w := by
  go_enter Tryz.func27, Tryz.ntmps27
  go_wp2_with fail
  go_loopw [3, 4] (fun st iv wr => ∃ i : Nat, i ≤ 5 ∧ iv = .int .i64 i ∧ Hid (w = wr) ∧ ∃ y : ByteArray, st = .string y ∧ y.size ≤ 5 ∧ Hid (y = bs (pre k i))) (fun _ iv _ => 5 - (intOf iv).toNat)
  case atStart => exact ⟨0, by decide, rfl, rfl, _, rfl, by decide, rfl⟩
  case round =>
    obtain ⟨i, hi5, rfl, hw, y, rfl, hy, hp⟩ := hrel
    obtain rfl := hw.out
    by_cases hi : i < 5
    · have TB := bit_is k hk i hi
      have SE := Lib.hid (seiht_is i hi)
      have hii : (i : Int) < 5 := by omega
      have szx : ((⟨#[115, 101, 105, 104, 116]⟩ : ByteArray).extract i (i + 1)).size = 1 := by rw [SE.out, bs_size]; rfl
      have hyl : y.size ≤ i := by rw [hp.out, bs_size]; exact pre_len k i
      by_cases hb : k / 2 ^ i % 2 = 1
      · rw [decide_eq_true hb] at TB
        have hn : Hid (y ++ (⟨#[115, 101, 105, 104, 116]⟩ : ByteArray).extract i (i + 1) = bs (pre k (i + 1))) := by
          show _ = _
          rw [SE.out, hp.out, bs_append]
          congr 1
          show _ = pre k i ++ bit k i (chr i)
          unfold bit
          rw [if_pos hb]
        clear hb
        go_wp2_with fail
        go_roundw
        case rel => exact ⟨i + 1, by omega, by go_num, trivial, _, rfl, by rw [ByteArray.size_append, szx]; omega, hn⟩
        case measure => simp [intOf]; omega
      · rw [decide_eq_false hb] at TB
        have hn : Hid (y = bs (pre k (i + 1))) := by
          show _ = _
          rw [hp.out]
          congr 1
          show _ = pre k i ++ bit k i (chr i)
          unfold bit
          rw [if_neg hb, List.append_nil]
        clear hb
        go_wp2_with fail
        go_roundw
        case rel => exact ⟨i + 1, by omega, by go_num, trivial, _, rfl, hy, hn⟩
        case measure => simp [intOf]; omega
    · obtain rfl : i = 5 := by omega
      have hl : Hid (y = bs (lets k)) := by show _ = _; rw [hp.out, pre_lets]
      by_cases e : lets k = []
      · have hy0 : y = ⟨#[]⟩ := by rw [hl.out, e]; rfl
        have hL : letters k = [45] := by unfold letters; rw [if_pos e]
        have HL := Lib.hid hL
        subst hy0
        clear e hL
        go_wp2
        go_ret
        exact ⟨by rw [HL.out]; rfl, rfl⟩
      · have TE : (y.toList == []) = false := by
          rw [Lib.toList_data, hl.out, bs_data]
          exact beq_eq_false_iff_ne.2 e
        have hL : letters k = lets k := by unfold letters; rw [if_neg e]
        have HL := Lib.hid hL
        clear e hL
        go_wp2
        go_ret
        exact ⟨by rw [HL.out, hl.out]; rfl, rfl⟩
theorem good_no {b3 b7 b9 d : Bool} (h : (b3 && b7 && b9) = false) : (b3 && d && b7 && b9) = false := by revert h; cases b3 <;> cases b7 <;> cases b9 <;> cases d <;> decide
theorem good_no2 {b3 b7 b9 : Bool} : (b3 && decide (32 < 32) && b7 && b9) = false := by cases b3 <;> rfl
set_option maxRecDepth 100000 in
set_option maxHeartbeats 4000000 in
theorem rperson_is (ws : List (List UInt8)) (g c : Nat) (w : World) (hw : WIn w g 0 ws) (hg : g < w.heap.size) (hc : ws.length ≤ c) (hl : ∀ x ∈ ws, x.length < 4294967281) :
    Calls Tryz.prog 41 #[.slice (some ⟨g, 0, none⟩) ws.length c] w fun e w' => e = .returned (.tuple #[pnV (perR ws), .bool (perB ws)]) ∧ Below w.heap.size w w' := by
  obtain ⟨n, hn⟩ : ∃ n, ws.length = n := ⟨_, rfl⟩
  have bx := below_box w (.cells (pcells zP) 27)
  have hx := heap_alloc_new w (.cells (pcells zP) 27)
  obtain ⟨W0, hW0⟩ : ∃ W, w.alloc (.cells (pcells zP) 27) = W := ⟨_, rfl⟩
  obtain ⟨x, hxw⟩ : ∃ x, w.heap.size = x := ⟨_, rfl⟩
  have hs0 : W0.heap.size = x + 1 := by rw [← hW0, ← hxw]; simp
  rw [hxw] at hx hg
  rw [hW0] at hx bx
  have BX := Lib.hid bx
  have HX := Lib.hid hx
  have HS0 := Lib.hid hs0
  have HW : Hid (∀ W, Below (x + 1) W0 W → WIn W g 0 ws) := fun W b => (hw.below BX.out (by rw [hxw]; exact hg)).below b (by omega)
  have H := hxw
  unfold pcells zP at hW0 hx
  dsimp only at hW0 hx
  obtain ⟨⟨q0, q1, q2, q3, q4⟩, f0, f1, f2, f3, f4⟩ := arr5 hx
  by_cases h10 : n = 10
  · subst h10
    obtain ⟨s0, s1, s2, s3, s4, s5, s6, s7, s8, s9, rfl⟩ : ∃ s0 s1 s2 s3 s4 s5 s6 s7 s8 s9, ws = [s0, s1, s2, s3, s4, s5, s6, s7, s8, s9] := by
      match ws, hn with
      | [s0, s1, s2, s3, s4, s5, s6, s7, s8, s9], _ => exact ⟨_, _, _, _, _, _, _, _, _, _, rfl⟩
    have CW := HW.out W0 (Below.refl _ _)
    have c0 := CW.get 0 s0 rfl
    obtain ⟨y0, hy0⟩ : ∃ y, bs s0 = y := ⟨_, rfl⟩
    obtain ⟨k0, hb0⟩ : ∃ y, decide (s0 = wPerson) = y := ⟨_, rfl⟩
    have T0 := eqW (c := wPerson) hy0 hb0
    unfold wPerson at T0
    rw [hy0] at c0
    (try rw [Nat.zero_add] at c0)
    have c2 := CW.get 2 s2 rfl
    obtain ⟨y1, hy1⟩ : ∃ y, bs s2 = y := ⟨_, rfl⟩
    obtain ⟨k1, hb1⟩ : ∃ y, decide (s2 = wCom) = y := ⟨_, rfl⟩
    have T1 := eqW (c := wCom) hy1 hb1
    unfold wCom at T1
    rw [hy1] at c2
    (try rw [Nat.zero_add] at c2)
    have c4 := CW.get 4 s4 rfl
    obtain ⟨y2, hy2⟩ : ∃ y, bs s4 = y := ⟨_, rfl⟩
    obtain ⟨k2, hb2⟩ : ∃ y, decide (s4 = wSk) = y := ⟨_, rfl⟩
    have T2 := eqW (c := wSk) hy2 hb2
    unfold wSk at T2
    rw [hy2] at c4
    (try rw [Nat.zero_add] at c4)
    have c6 := CW.get 6 s6 rfl
    obtain ⟨y3, hy3⟩ : ∃ y, bs s6 = y := ⟨_, rfl⟩
    obtain ⟨k3, hb3⟩ : ∃ y, decide (s6 = wFrom) = y := ⟨_, rfl⟩
    have T3 := eqW (c := wFrom) hy3 hb3
    unfold wFrom at T3
    rw [hy3] at c6
    (try rw [Nat.zero_add] at c6)
    have c8 := CW.get 8 s8 rfl
    obtain ⟨y4, hy4⟩ : ∃ y, bs s8 = y := ⟨_, rfl⟩
    obtain ⟨k4, hb4⟩ : ∃ y, decide (s8 = wUntil) = y := ⟨_, rfl⟩
    have T4 := eqW (c := wUntil) hy4 hb4
    unfold wUntil at T4
    rw [hy4] at c8
    (try rw [Nat.zero_add] at c8)
    rw [hn]
    cases k0 with
    | false =>
      have r1 := perB_kw (ws := [s0, s1, s2, s3, s4, s5, s6, s7, s8, s9]) 0 (by decide) (of_decide_eq_false hb0)
      have r2 : perR [s0, s1, s2, s3, s4, s5, s6, s7, s8, s9] = zP := by unfold perR; rw [if_neg (by rw [r1]; decide)]
      rw [r1, r2]
      clear r1 r2 hb0 hb1 hb2 hb3 hb4 hy0 hy1 hy2 hy3 hy4 hx bx H hw hs0 hn hl hc CW
      go_enter Tryz.func41, Tryz.ntmps41
      go_wp2_with fail
      (try rw [hW0])
      (try rw [hxw])
      clear hW0
      (try go_wp2)
      generalize h9 : (World.setCell (World.setCell (World.setCell (World.setCell (World.setCell W0 ⟨x, 0, none⟩ (.string ⟨#[]⟩)) ⟨x, 1, none⟩ (.int .i64 0)) ⟨x, 2, none⟩ (.int .i64 0)) ⟨x, 3, none⟩ (.int .i64 0)) ⟨x, 4, none⟩ (.int .i64 0)) = W9
      have X9 := set5 (v0 := (.string ⟨#[]⟩)) (v1 := (.int .i64 0)) (v2 := (.int .i64 0)) (v3 := (.int .i64 0)) (v4 := (.int .i64 0)) (HX.out)
      have bz := set5_below (b := x) (B := x) (v0 := (.string ⟨#[]⟩)) (v1 := (.int .i64 0)) (v2 := (.int .i64 0)) (v3 := (.int .i64 0)) (v4 := (.int .i64 0)) (BX.out.trans ((Below.refl (x + 1) W0).mono (by rw [hxw]; omega)) |> fun h => (by rw [hxw] at h; exact h)) (Nat.le_refl _)
      rw [h9] at X9 bz
      clear h9
      have BZ := Lib.hid bz
      obtain ⟨⟨q0, q1, q2, q3, q4⟩, -⟩ := arr5 X9
      clear X9 bz
      exact bodyPost_ret (v := .tuple #[pnV (zP), .bool false]) (by simp [results, Tryz.results41, go_sem, q0, q1, q2, q3, q4, pnV, zP]) rfl ⟨rfl, by first | exact BZ.out | (rw [hxw]; exact BZ.out)⟩
    | true =>
      cases k1 with
      | false =>
        have r1 := perB_kw (ws := [s0, s1, s2, s3, s4, s5, s6, s7, s8, s9]) 1 (by decide) (of_decide_eq_false hb1)
        have r2 : perR [s0, s1, s2, s3, s4, s5, s6, s7, s8, s9] = zP := by unfold perR; rw [if_neg (by rw [r1]; decide)]
        rw [r1, r2]
        clear r1 r2 hb0 hb1 hb2 hb3 hb4 hy0 hy1 hy2 hy3 hy4 hx bx H hw hs0 hn hl hc CW
        go_enter Tryz.func41, Tryz.ntmps41
        go_wp2_with fail
        (try rw [hW0])
        (try rw [hxw])
        clear hW0
        (try go_wp2)
        generalize h9 : (World.setCell (World.setCell (World.setCell (World.setCell (World.setCell W0 ⟨x, 0, none⟩ (.string ⟨#[]⟩)) ⟨x, 1, none⟩ (.int .i64 0)) ⟨x, 2, none⟩ (.int .i64 0)) ⟨x, 3, none⟩ (.int .i64 0)) ⟨x, 4, none⟩ (.int .i64 0)) = W9
        have X9 := set5 (v0 := (.string ⟨#[]⟩)) (v1 := (.int .i64 0)) (v2 := (.int .i64 0)) (v3 := (.int .i64 0)) (v4 := (.int .i64 0)) (HX.out)
        have bz := set5_below (b := x) (B := x) (v0 := (.string ⟨#[]⟩)) (v1 := (.int .i64 0)) (v2 := (.int .i64 0)) (v3 := (.int .i64 0)) (v4 := (.int .i64 0)) (BX.out.trans ((Below.refl (x + 1) W0).mono (by rw [hxw]; omega)) |> fun h => (by rw [hxw] at h; exact h)) (Nat.le_refl _)
        rw [h9] at X9 bz
        clear h9
        have BZ := Lib.hid bz
        obtain ⟨⟨q0, q1, q2, q3, q4⟩, -⟩ := arr5 X9
        clear X9 bz
        exact bodyPost_ret (v := .tuple #[pnV (zP), .bool false]) (by simp [results, Tryz.results41, go_sem, q0, q1, q2, q3, q4, pnV, zP]) rfl ⟨rfl, by first | exact BZ.out | (rw [hxw]; exact BZ.out)⟩
      | true =>
        cases k2 with
        | false =>
          have r1 := perB_kw (ws := [s0, s1, s2, s3, s4, s5, s6, s7, s8, s9]) 2 (by decide) (of_decide_eq_false hb2)
          have r2 : perR [s0, s1, s2, s3, s4, s5, s6, s7, s8, s9] = zP := by unfold perR; rw [if_neg (by rw [r1]; decide)]
          rw [r1, r2]
          clear r1 r2 hb0 hb1 hb2 hb3 hb4 hy0 hy1 hy2 hy3 hy4 hx bx H hw hs0 hn hl hc CW
          go_enter Tryz.func41, Tryz.ntmps41
          go_wp2_with fail
          (try rw [hW0])
          (try rw [hxw])
          clear hW0
          (try go_wp2)
          generalize h9 : (World.setCell (World.setCell (World.setCell (World.setCell (World.setCell W0 ⟨x, 0, none⟩ (.string ⟨#[]⟩)) ⟨x, 1, none⟩ (.int .i64 0)) ⟨x, 2, none⟩ (.int .i64 0)) ⟨x, 3, none⟩ (.int .i64 0)) ⟨x, 4, none⟩ (.int .i64 0)) = W9
          have X9 := set5 (v0 := (.string ⟨#[]⟩)) (v1 := (.int .i64 0)) (v2 := (.int .i64 0)) (v3 := (.int .i64 0)) (v4 := (.int .i64 0)) (HX.out)
          have bz := set5_below (b := x) (B := x) (v0 := (.string ⟨#[]⟩)) (v1 := (.int .i64 0)) (v2 := (.int .i64 0)) (v3 := (.int .i64 0)) (v4 := (.int .i64 0)) (BX.out.trans ((Below.refl (x + 1) W0).mono (by rw [hxw]; omega)) |> fun h => (by rw [hxw] at h; exact h)) (Nat.le_refl _)
          rw [h9] at X9 bz
          clear h9
          have BZ := Lib.hid bz
          obtain ⟨⟨q0, q1, q2, q3, q4⟩, -⟩ := arr5 X9
          clear X9 bz
          exact bodyPost_ret (v := .tuple #[pnV (zP), .bool false]) (by simp [results, Tryz.results41, go_sem, q0, q1, q2, q3, q4, pnV, zP]) rfl ⟨rfl, by first | exact BZ.out | (rw [hxw]; exact BZ.out)⟩
        | true =>
          cases k3 with
          | false =>
            have r1 := perB_kw (ws := [s0, s1, s2, s3, s4, s5, s6, s7, s8, s9]) 3 (by decide) (of_decide_eq_false hb3)
            have r2 : perR [s0, s1, s2, s3, s4, s5, s6, s7, s8, s9] = zP := by unfold perR; rw [if_neg (by rw [r1]; decide)]
            rw [r1, r2]
            clear r1 r2 hb0 hb1 hb2 hb3 hb4 hy0 hy1 hy2 hy3 hy4 hx bx H hw hs0 hn hl hc CW
            go_enter Tryz.func41, Tryz.ntmps41
            go_wp2_with fail
            (try rw [hW0])
            (try rw [hxw])
            clear hW0
            (try go_wp2)
            generalize h9 : (World.setCell (World.setCell (World.setCell (World.setCell (World.setCell W0 ⟨x, 0, none⟩ (.string ⟨#[]⟩)) ⟨x, 1, none⟩ (.int .i64 0)) ⟨x, 2, none⟩ (.int .i64 0)) ⟨x, 3, none⟩ (.int .i64 0)) ⟨x, 4, none⟩ (.int .i64 0)) = W9
            have X9 := set5 (v0 := (.string ⟨#[]⟩)) (v1 := (.int .i64 0)) (v2 := (.int .i64 0)) (v3 := (.int .i64 0)) (v4 := (.int .i64 0)) (HX.out)
            have bz := set5_below (b := x) (B := x) (v0 := (.string ⟨#[]⟩)) (v1 := (.int .i64 0)) (v2 := (.int .i64 0)) (v3 := (.int .i64 0)) (v4 := (.int .i64 0)) (BX.out.trans ((Below.refl (x + 1) W0).mono (by rw [hxw]; omega)) |> fun h => (by rw [hxw] at h; exact h)) (Nat.le_refl _)
            rw [h9] at X9 bz
            clear h9
            have BZ := Lib.hid bz
            obtain ⟨⟨q0, q1, q2, q3, q4⟩, -⟩ := arr5 X9
            clear X9 bz
            exact bodyPost_ret (v := .tuple #[pnV (zP), .bool false]) (by simp [results, Tryz.results41, go_sem, q0, q1, q2, q3, q4, pnV, zP]) rfl ⟨rfl, by first | exact BZ.out | (rw [hxw]; exact BZ.out)⟩
          | true =>
            cases k4 with
            | false =>
              have r1 := perB_kw (ws := [s0, s1, s2, s3, s4, s5, s6, s7, s8, s9]) 4 (by decide) (of_decide_eq_false hb4)
              have r2 : perR [s0, s1, s2, s3, s4, s5, s6, s7, s8, s9] = zP := by unfold perR; rw [if_neg (by rw [r1]; decide)]
              rw [r1, r2]
              clear r1 r2 hb0 hb1 hb2 hb3 hb4 hy0 hy1 hy2 hy3 hy4 hx bx H hw hs0 hn hl hc CW
              go_enter Tryz.func41, Tryz.ntmps41
              go_wp2_with fail
              (try rw [hW0])
              (try rw [hxw])
              clear hW0
              (try go_wp2)
              generalize h9 : (World.setCell (World.setCell (World.setCell (World.setCell (World.setCell W0 ⟨x, 0, none⟩ (.string ⟨#[]⟩)) ⟨x, 1, none⟩ (.int .i64 0)) ⟨x, 2, none⟩ (.int .i64 0)) ⟨x, 3, none⟩ (.int .i64 0)) ⟨x, 4, none⟩ (.int .i64 0)) = W9
              have X9 := set5 (v0 := (.string ⟨#[]⟩)) (v1 := (.int .i64 0)) (v2 := (.int .i64 0)) (v3 := (.int .i64 0)) (v4 := (.int .i64 0)) (HX.out)
              have bz := set5_below (b := x) (B := x) (v0 := (.string ⟨#[]⟩)) (v1 := (.int .i64 0)) (v2 := (.int .i64 0)) (v3 := (.int .i64 0)) (v4 := (.int .i64 0)) (BX.out.trans ((Below.refl (x + 1) W0).mono (by rw [hxw]; omega)) |> fun h => (by rw [hxw] at h; exact h)) (Nat.le_refl _)
              rw [h9] at X9 bz
              clear h9
              have BZ := Lib.hid bz
              obtain ⟨⟨q0, q1, q2, q3, q4⟩, -⟩ := arr5 X9
              clear X9 bz
              exact bodyPost_ret (v := .tuple #[pnV (zP), .bool false]) (by simp [results, Tryz.results41, go_sem, q0, q1, q2, q3, q4, pnV, zP]) rfl ⟨rfl, by first | exact BZ.out | (rw [hxw]; exact BZ.out)⟩
            | true =>
              have KW : ∀ k, k < 5 → at_ [s0, s1, s2, s3, s4, s5, s6, s7, s8, s9] (2 * k) = kwd k := fun k hk => by
                rcases (show k = 0 ∨ k = 1 ∨ k = 2 ∨ k = 3 ∨ k = 4 by omega) with rfl | rfl | rfl | rfl | rfl
                · exact of_decide_eq_true hb0
                · exact of_decide_eq_true hb1
                · exact of_decide_eq_true hb2
                · exact of_decide_eq_true hb3
                · exact of_decide_eq_true hb4
              have RST := perB_rest KW
              have z3 : s3.length < 4294967281 := hl s3 (by simp)
              have z7 : s7.length < 4294967281 := hl s7 (by simp)
              have z9 : s9.length < 4294967281 := hl s9 (by simp)
              obtain ⟨b3, e3⟩ : ∃ b, numB s3 lim = b := ⟨_, rfl⟩
              obtain ⟨n3, hn3⟩ : ∃ b, numV s3 lim = b := ⟨_, rfl⟩
              obtain ⟨b7, e7⟩ : ∃ b, progB s7 = b := ⟨_, rfl⟩
              obtain ⟨b9, e9⟩ : ∃ b, progB s9 = b := ⟨_, rfl⟩
              obtain ⟨n7, hn7⟩ : ∃ b, paV s7 = b := ⟨_, rfl⟩
              obtain ⟨n9, hn9⟩ : ∃ b, paV s9 = b := ⟨_, rfl⟩
              have N3 := fun W => rnumber_any (bs s3) lim W (by rw [bs_size]; unfold maxLen; omega) (by decide) (by decide)
              rw [bs_data, e3, hn3] at N3
              unfold lim at N3
              replace N3 := Lib.hid N3
              obtain ⟨x7, hx7⟩ : ∃ b, (if b7 = true then (0 : Int) else 2) = b := ⟨_, rfl⟩
              obtain ⟨x9, hx9⟩ : ∃ b, (if b9 = true then (0 : Int) else 2) = b := ⟨_, rfl⟩
              have HE7 : Hid ((b7 = true → x7 = 0) ∧ (b7 = false → x7 = 2)) := ⟨fun e => by rw [← hx7, if_pos e], fun e => by rw [← hx7, if_neg (by rw [e]; decide)]⟩
              have HE9 : Hid ((b9 = true → x9 = 0) ∧ (b9 = false → x9 = 2)) := ⟨fun e => by rw [← hx9, if_pos e], fun e => by rw [← hx9, if_neg (by rw [e]; decide)]⟩
              have N7 := Lib.hid (fun W => rparse_at (bs s7) s7 rfl n7 x7 hn7 (by unfold paE; rw [e7]; exact hx7) (by omega) W)
              have N9 := Lib.hid (fun W => rparse_at (bs s9) s9 rfl n9 x9 hn9 (by unfold paE; rw [e9]; exact hx9) (by omega) W)
              rw [e3, e7, e9] at RST
              have RS := Lib.hid RST
              have HV : Hid (perV [s0, s1, s2, s3, s4, s5, s6, s7, s8, s9] = ⟨bs s1, n3, (skN s5 : Int), n7, n9⟩) := by rw [← hn3, ← hn7, ← hn9]; rfl
              obtain ⟨ANS, hans⟩ : ∃ A, pnV (perR [s0, s1, s2, s3, s4, s5, s6, s7, s8, s9]) = A := ⟨_, rfl⟩
              obtain ⟨ANB, hanb⟩ : ∃ A, perB [s0, s1, s2, s3, s4, s5, s6, s7, s8, s9] = A := ⟨_, rfl⟩
              have HAN := Lib.hid hans
              have HAB := Lib.hid hanb
              rw [hans, hanb]
              have c3 := CW.get 3 s3 rfl
              clear hans hanb hb0 hb1 hb2 hb3 hb4 hy0 hy1 hy2 hy3 hy4 hx bx H hw hs0 hn hl hc CW e3 e7 e9 hn3 hn7 hn9 hx7 hx9 z3 z7 z9 RST KW f0 f1 f2 f3 f4 q0 q1 q2 q3 q4
              go_enter Tryz.func41, Tryz.ntmps41
              go_wp2_with fail
              (try rw [hW0])
              (try rw [hxw])
              clear hW0 c0 c2 c4 c6 c8 T0 T1 T2 T3 T4
              have hs1 := HS0.out
              refine (N3.out W0).mono ?_; rintro e w3 ⟨rfl, rfl⟩
              have c7 := (HW.out W0 (Below.refl _ _)).get 7 s7 rfl
              clear c3
              go_wp2_with fail
              refine (N7.out _).mono ?_; rintro e w7 ⟨rfl, t7⟩
              have B7 : Hid (Below (x + 1) W0 w7) := t7.mono (by omega)
              have c9 := (HW.out _ B7.out).get 9 s9 rfl
              clear t7 c7
              go_wp2_with fail
              refine (N9.out _).mono ?_; rintro e w9 ⟨rfl, t9⟩
              have B9 : Hid (Below (x + 1) W0 w9) := B7.out.trans (t9.mono (by have := B7.out.size; omega))
              clear t9 c9 B7
              go_wp2_with fail
              go_loopw [10] (fun iv wr => ∃ i : Nat, i ≤ 32 ∧ iv = .int .i64 i ∧ Hid (Below (x + 1) W0 wr) ∧ Hid (∀ k, k < i → letters k = s5 → (b3 && b7 && b9) = false)) (fun iv _ => 32 - (intOf iv).toNat)
              case atStart => exact ⟨0, by decide, rfl, B9, fun k hk => by cases hk⟩
              case round =>
                clear B9
                obtain ⟨i, hi5, rfl, BL, NO⟩ := hrel
                by_cases hi : i < 32
                · have hii : (i : Int) < 32 := by omega
                  have c5 := (HW.out wr BL.out).get 5 s5 rfl
                  have c1 := (HW.out wr BL.out).get 1 s1 rfl
                  rw [Nat.zero_add] at c5 c1
                  obtain ⟨y, hy⟩ : ∃ y, bs (letters i) = y := ⟨_, rfl⟩
                  obtain ⟨z, hz⟩ : ∃ y, bs s5 = y := ⟨_, rfl⟩
                  have LT := fun W => rletters_same i hi W
                  rw [hy] at LT
                  rw [hz] at c5
                  obtain ⟨⟨q0, q1, q2, q3, q4⟩, f0, f1, f2, f3, f4⟩ := arr5 (T := 27) (blk BL.out (Nat.lt_succ_self x) HX.out)
                  replace LT := Lib.hid LT
                  by_cases e : letters i = s5
                  · have TE : (y.toList == z.toList) = true := by rw [str_eq, ← hy, ← hz, e]; exact decide_eq_true rfl
                    have hsk := skN_hit hi e
                    have NX : Hid ((b3 && b7 && b9) = false → ∀ k, k < i + 1 → letters k = s5 → (b3 && b7 && b9) = false) := fun h _ _ _ => h
                    have r3 := HAB.out
                    have r4 := HAN.out
                    unfold perR at r4
                    rw [r3] at r4
                    rw [RS.out, hsk] at r3
                    rw [HV.out, hsk] at r4
                    have R3 := Lib.hid r3
                    have R4 := Lib.hid r4
                    clear e hy hz hsk NO r3 r4 RS HAB HAN HV
                    cases b3 <;> cases b7 <;> cases b9
                    case true.true.true =>
                      have r3 := R3.out
                      have r4 := R4.out
                      rw [decide_eq_true hi] at r3
                      subst r3
                      rw [if_pos (show (true && true && true && true) = true from rfl)] at r4
                      subst r4
                      have e7 := HE7.out.1 rfl
                      have e9 := HE9.out.1 rfl
                      subst e7 e9
                      clear NX R3 R4 HE7 HE9 hi
                      go_wp2_with fail
                      go_quiet ((go_at_call 27; exact Calls.quiet_of_same (LT.out _)))
                      have B8 := Lib.hid (below_drewN BL.out nq)
                      obtain ⟨W8, hW8⟩ : ∃ W, wr.drewN nq = W := ⟨_, rfl⟩
                      rw [hW8] at B8 ⊢
                      clear hW8 q0 q1 q2 q3 q4 f0 f1 f2 f3 f4 c1 c5
                      obtain ⟨⟨q0, q1, q2, q3, q4⟩, f0, f1, f2, f3, f4⟩ := arr5 (T := 27) (blk B8.out (Nat.lt_succ_self x) HX.out)
                      have c1 := (HW.out W8 B8.out).get 1 s1 rfl
                      rw [Nat.zero_add] at c1
                      go_wp2
                      generalize h9 : (World.setCell (World.setCell (World.setCell (World.setCell (World.setCell W8 ⟨x, 0, none⟩ (.string (bs s1))) ⟨x, 1, none⟩ (.int .i64 n3)) ⟨x, 2, none⟩ (.int .i64 (i : Int))) ⟨x, 3, none⟩ (.int .i64 n7)) ⟨x, 4, none⟩ (.int .i64 n9)) = W9
                      have X9 := set5 (v0 := (.string (bs s1))) (v1 := (.int .i64 n3)) (v2 := (.int .i64 (i : Int))) (v3 := (.int .i64 n7)) (v4 := (.int .i64 n9)) (blk B8.out (Nat.lt_succ_self x) HX.out)
                      have bz := set5_below (b := x) (B := x) (v0 := (.string (bs s1))) (v1 := (.int .i64 n3)) (v2 := (.int .i64 (i : Int))) (v3 := (.int .i64 n7)) (v4 := (.int .i64 n9)) (BX.out.trans (B8.out.mono (by rw [hxw]; omega)) |> fun h => (by rw [hxw] at h; exact h)) (Nat.le_refl _)
                      rw [h9] at X9 bz
                      clear h9
                      have BZ := Lib.hid bz
                      obtain ⟨⟨q0, q1, q2, q3, q4⟩, -⟩ := arr5 X9
                      clear X9 bz
                      exact bodyPost_ret (v := .tuple #[pnV (⟨bs s1, n3, (i : Int), n7, n9⟩), .bool true]) (by simp [results, Tryz.results41, go_sem, q0, q1, q2, q3, q4, pnV]) rfl ⟨rfl, by first | exact BZ.out | (rw [hxw]; exact BZ.out)⟩
                    all_goals
                      have NX2 := Lib.hid (NX.out rfl)
                      first | (obtain rfl : x7 = 0 := HE7.out.1 rfl) | (obtain rfl : x7 = 2 := HE7.out.2 rfl)
                      first | (obtain rfl : x9 = 0 := HE9.out.1 rfl) | (obtain rfl : x9 = 2 := HE9.out.2 rfl)
                      clear NX HE7 HE9 R3 R4
                      go_wp2_with fail
                      go_quiet ((go_at_call 27; exact Calls.quiet_of_same (LT.out _)))
                      go_wp2
                      go_roundw
                      case rel => exact ⟨i + 1, by omega, by go_num, below_drewN BL.out _, NX2⟩
                      case measure => simp [intOf]; omega
                  · have TE : (y.toList == z.toList) = false := by rw [str_eq, ← hy, ← hz]; exact decide_eq_false (fun q => e (bs_inj q))
                    have NX2 : Hid (∀ k, k < i + 1 → letters k = s5 → (b3 && b7 && b9) = false) := fun k hk e1 => by
                      by_cases e2 : k = i
                      · subst e2; exact absurd e1 e
                      · exact NO.out k (by omega) e1
                    clear e hy hz NO
                    go_wp2_with fail
                    go_quiet ((go_at_call 27; exact Calls.quiet_of_same (LT.out _)))
                    go_wp2
                    go_roundw
                    case rel => exact ⟨i + 1, by omega, by go_num, below_drewN BL.out _, NX2⟩
                    case measure => simp [intOf]; omega
                · obtain rfl : i = 32 := by omega
                  have r1 : perB [s0, s1, s2, s3, s4, s5, s6, s7, s8, s9] = false := by
                    rw [RS.out]
                    by_cases hb : (b3 && b7 && b9) = false
                    · exact good_no hb
                    · have : skN s5 = 32 := skN_none (fun k hk e => hb (NO.out k hk e))
                      rw [this]; exact good_no2
                  have r3 := HAB.out
                  have r4 := HAN.out
                  unfold perR at r4
                  rw [r1] at r3 r4
                  rw [if_neg (by decide)] at r4
                  subst r3 r4
                  obtain ⟨⟨q0, q1, q2, q3, q4⟩, f0, f1, f2, f3, f4⟩ := arr5 (T := 27) (blk BL.out (Nat.lt_succ_self x) HX.out)
                  clear r1
                  go_wp2
                  generalize h9 : (World.setCell (World.setCell (World.setCell (World.setCell (World.setCell wr ⟨x, 0, none⟩ (.string ⟨#[]⟩)) ⟨x, 1, none⟩ (.int .i64 0)) ⟨x, 2, none⟩ (.int .i64 0)) ⟨x, 3, none⟩ (.int .i64 0)) ⟨x, 4, none⟩ (.int .i64 0)) = W9
                  have X9 := set5 (v0 := (.string ⟨#[]⟩)) (v1 := (.int .i64 0)) (v2 := (.int .i64 0)) (v3 := (.int .i64 0)) (v4 := (.int .i64 0)) (blk BL.out (Nat.lt_succ_self x) HX.out)
                  have bz := set5_below (b := x) (B := x) (v0 := (.string ⟨#[]⟩)) (v1 := (.int .i64 0)) (v2 := (.int .i64 0)) (v3 := (.int .i64 0)) (v4 := (.int .i64 0)) (BX.out.trans (BL.out.mono (by rw [hxw]; omega)) |> fun h => (by rw [hxw] at h; exact h)) (Nat.le_refl _)
                  rw [h9] at X9 bz
                  clear h9
                  have BZ := Lib.hid bz
                  obtain ⟨⟨q0, q1, q2, q3, q4⟩, -⟩ := arr5 X9
                  clear X9 bz
                  exact bodyPost_ret (v := .tuple #[pnV (zP), .bool false]) (by simp [results, Tryz.results41, go_sem, q0, q1, q2, q3, q4, pnV, zP]) rfl ⟨rfl, by first | exact BZ.out | (rw [hxw]; exact BZ.out)⟩
  · have hB := perB_len (by rw [hn]; exact h10)
    have hR : perR ws = zP := by unfold perR; rw [if_neg (by rw [hB]; decide)]
    rw [hn, hB, hR]
    have T : ((n : Int) != 10) = true := by rw [bne_iff_ne]; omega
    clear hB hR hx bx H hw hs0 hn hl hc hg
    go_enter Tryz.func41, Tryz.ntmps41
    go_wp2_with fail
    (try rw [hW0])
    (try rw [hxw])
    clear hW0
    (try go_wp2)
    generalize h9 : (World.setCell (World.setCell (World.setCell (World.setCell (World.setCell W0 ⟨x, 0, none⟩ (.string ⟨#[]⟩)) ⟨x, 1, none⟩ (.int .i64 0)) ⟨x, 2, none⟩ (.int .i64 0)) ⟨x, 3, none⟩ (.int .i64 0)) ⟨x, 4, none⟩ (.int .i64 0)) = W9
    have X9 := set5 (v0 := (.string ⟨#[]⟩)) (v1 := (.int .i64 0)) (v2 := (.int .i64 0)) (v3 := (.int .i64 0)) (v4 := (.int .i64 0)) (HX.out)
    have bz := set5_below (b := x) (B := x) (v0 := (.string ⟨#[]⟩)) (v1 := (.int .i64 0)) (v2 := (.int .i64 0)) (v3 := (.int .i64 0)) (v4 := (.int .i64 0)) (BX.out.trans ((Below.refl (x + 1) W0).mono (by rw [hxw]; omega)) |> fun h => (by rw [hxw] at h; exact h)) (Nat.le_refl _)
    rw [h9] at X9 bz
    clear h9
    have BZ := Lib.hid bz
    obtain ⟨⟨q0, q1, q2, q3, q4⟩, -⟩ := arr5 X9
    clear X9 bz
    exact bodyPost_ret (v := .tuple #[pnV (zP), .bool false]) (by simp [results, Tryz.results41, go_sem, q0, q1, q2, q3, q4, pnV, zP]) rfl ⟨rfl, by first | exact BZ.out | (rw [hxw]; exact BZ.out)⟩
end Go.Proofs.YthdjpmiohfaphaaGreatDoor.reg

/- The walks of the reference of layer 5: Parse. It computes what the plain facts say. No condition. -/
namespace Go.Proofs.YthdjpmiohfaphaaGreatDoor.reg
open Go.RowKit lex aggs kit net strs cal deck

set_option maxRecDepth 100000 in
set_option maxHeartbeats 8000000 in
theorem rparse_is (s : List UInt8) (w : World) (hs : s.length ≤ 1099511627776) :
    Calls Tryz.prog 24 #[.string (bs s)] w (ParseP s w) := by
  obtain ⟨r, hr⟩ : ∃ r, lines s = r := ⟨_, rfl⟩
  have BX0 := Lib.hid (below_box w (.cells #[.slice none 0 0] 25))
  have HB : Hid ((w.alloc (.cells #[.slice none 0 0] 25)).heap[w.heap.size]? = some (.cells #[.slice none 0 0] 25 (0, 0))) := heap_alloc_new _ _
  have LN := rlines_any (bs s) (w.alloc (.cells #[.slice none 0 0] 25)) (by rw [bs_size]; unfold maxLen; omega)
  rw [bs_data, hr] at LN
  replace LN := Lib.hid LN
  have HR := Lib.hid hr
  clear hr hs
  obtain ⟨x, hx⟩ : ∃ x, w.heap.size = x := ⟨_, rfl⟩
  have HXE := Lib.hid hx
  rw [hx] at HB
  clear hx
  go_enter Tryz.func24, Tryz.ntmps24
  go_wp2_with fail
  (try rw [HXE.out])
  refine LN.out.mono ?_; rintro e w1 ⟨v, rfl, hv, b1⟩
  have B1 : Hid (Below (x + 1) (w.alloc (.cells #[.slice none 0 0] 25)) w1) := by show Below _ _ _; rw [← HXE.out]; simpa using b1
  have BW := Lib.hid (BX0.out.trans (B1.out.mono (by rw [HXE.out]; omega)))
  have hb1 : w1.heap[x]? = some (.cells #[.slice none 0 0] 25 (0, 0)) := blk B1.out (Nat.lt_succ_self _) HB.out
  have hv' : StrsAt w1 (x + 1) v (r.getD []) := by rw [← HXE.out]; simpa using hv
  have HV := Lib.hid hv'
  clear b1 hv hv' HB
  cases r with
  | none =>
    have PN : Hid (parseP s = ([], 0, 2)) := by show _ = _; unfold parseP; rw [HR.out]
    obtain ⟨d0, f0⟩ := cell_atR hb1 0
    have e1 := set_at (i := 0) (.slice none 0 0) hb1
    have p0 := (cell_atR e1 0).1
    have BE := Lib.hid (BW.out.setCell (p := ⟨x, 0, none⟩) (by rw [HXE.out]; exact Nat.le_refl _) (.slice none 0 0))
    clear hb1 e1
    go_wp2
    refine bodyPost_ret (v := .tuple #[.agg #[.slice none 0 0], .int .i64 0, .int .i64 2]) (by simp [results, Tryz.results24, go_sem, p0]) rfl ?_
    unfold ParseP
    rw [PN.out]
    exact ⟨none, 0, 0, rfl, reg_nil _, by first | exact BE.out | (rw [← HXE.out] at BE; exact BE.out)⟩
  | some L =>
    obtain ⟨la, cl, rfl, hLm⟩ := HV.out.length
    rw [Option.getD_some] at hLm
    have HV2 : Hid (StrsAt w1 (x + 1) (.slice la L.length cl) L) := HV.out
    obtain ⟨hws, hsz⟩ := lines_wsumR HR.out
    have hL := length_le_wsum L
    have HZ : Hid (∀ l ∈ L, l.length ≤ 65536) := fun l hl => by have := mem_wsumR hl; omega
    have hL2 : L.length ≤ 65536 := by omega
    clear hws hsz hL hLm HV
    obtain ⟨n, hn⟩ : ∃ n, L.length = n := ⟨_, rfl⟩
    have HN := Lib.hid hn
    have ROW : Hid (∀ (j : Nat) (hj : j < L.length), ∃ g, la = some ⟨g, 0, none⟩ ∧ g < w1.heap.size ∧ w1.cell? ⟨g, j, none⟩ = some (.string (bs L[j]))) := fun j hj => by
      rcases HV2.out.shape with ⟨_, e⟩ | ⟨g, c, e, _, hg, _, _, hc⟩
      · rw [e] at hj; cases hj
      · injection e with e1 e2 e3
        exact ⟨g, e1, hg, hc j hj⟩
    have HXB : Hid (Below w1.heap.size w1 (w1.alloc (.cells #[.slice none 0 0] 25))) := below_box _ _
    have HX0 : Hid ((w1.alloc (.cells #[.slice none 0 0] 25)).heap[w1.heap.size]? = some (.cells #[.slice none 0 0] 25 (0, 0))) := heap_alloc_new _ _
    have hwx : x < w1.heap.size := lt_of_block hb1
    obtain ⟨y, hy⟩ : ∃ y, w1.heap.size = y := ⟨_, rfl⟩
    have HYE := Lib.hid hy
    rw [hy] at HX0 HXB hwx
    have HB1 := Lib.hid hb1
    have PS : Hid (parseP s = runP 0 [] (L.map words)) := by show _ = _; unfold parseP; rw [HR.out]
    rw [hn] at hL2
    simp only [Option.isSome, Option.getD, hn]
    clear hy hn hb1 HV2
    go_wp2_with fail
    rw [HYE.out]
    go_loopw [8] (fun iv wr => ∃ (j : Nat) (a : Option Addr) (N c : Nat) (st : List Pn), iv = .int .i64 j ∧ j ≤ n ∧ Hid (wr.heap[y]? = some (.cells #[.slice a N c] 25 (0, 0))) ∧ Hid (Below y w1 wr) ∧ Hid (RegIn wr a N c st) ∧ Hid (Ok st) ∧ Hid (AtR L j st)) (fun iv _ => n - (intOf iv).toNat)
    case atStart => exact ⟨0, none, 0, 0, [], rfl, Nat.zero_le _, HX0, HXB, reg_nil _, ok_nil, rfl⟩
    case round =>
      clear HX0 HXB
      obtain ⟨j, a, N, c, st, rfl, hj, BX, bel, REG, OKS, hat⟩ := hrel
      have hyl := lt_of_block BX.out
      by_cases hjn : j < n
      · have hjl : j < L.length := by rw [HN.out]; exact hjn
        obtain ⟨g, rfl, hg, hc⟩ := ROW.out j hjl
        have k0 : wr.cell? ⟨g, j, none⟩ = some (.string (bs L[j])) := (bel.out.cell (p := ⟨g, j, none⟩) (by rw [← HYE.out]; exact hg)).trans hc
        have hlz := HZ.out _ (List.getElem_mem hjl)
        have WC := rwords_any (bs L[j]) wr (by rw [bs_size]; omega)
        rw [bs_data] at WC
        unfold WordsPost at WC
        replace WC := Lib.hid WC
        have hwg : ∀ q ∈ words L[j], lex.Good q := words_good L[j]
        have hww := words_wsum L[j]
        have hwz : ∀ q ∈ words L[j], q.length < 4294967281 := fun q hq => by have := mem_wsumR hq; omega
        have NX0 := AtR.step hat.out hjl
        have HDR : Hid (∀ st', runP 0 [] (L.map words) = runP (j + 1) st' ((L.drop (j + 1)).map words) → AtR L (j + 1) st') := fun _ h => h
        generalize words L[j] = ws at *
        generalize L[j] = lj at *
        have WG := Lib.hid hwg
        have WZ := Lib.hid hwz
        have NX := Lib.hid NX0
        clear hc hlz hwg hww hwz hjl hg NX0
        go_wp2_with fail
        refine WC.out.mono ?_; rintro e w2 ⟨v2, rfl, hv2, b2⟩
        have BX2 := Lib.hid (blk b2 hyl BX.out)
        have BB := Lib.hid (bel.out.trans (b2.mono (Nat.le_of_lt hyl)))
        have RG2 := Lib.hid (REG.out.below b2)
        clear k0 b2 WC BX REG hyl bel
        cases ws with
        | nil =>
          obtain ⟨a0, c', rfl, -⟩ := hv2.length
          have NX2 := NX.out
          rw [show lineP st [] = (st, 0) from rfl, if_pos rfl] at NX2
          have NA := Lib.hid (HDR.out _ NX2)
          clear NX2 hv2
          go_wp2
          go_roundw
          case rel => exact ⟨j + 1, a, N, c, st, by go_num, by omega, BX2, BB, RG2, OKS, NA⟩
          case measure => simp [intOf]; omega
        | cons s0 t =>
          rcases hv2.shape with ⟨_, e⟩ | ⟨g2, cc, e, hbg, hgl, hlen, hcap, hcell⟩
          · cases e
          · subst e
            have w0 := hcell 0 (by simp)
            rw [List.getElem_cons_zero] at w0
            have HW : WIn w2 g2 0 (s0 :: t) := fun i hi => by rw [Nat.zero_add]; exact hcell i hi
            obtain ⟨hs0, -⟩ := WG.out s0 List.mem_cons_self
            obtain ⟨z, hzz⟩ : ∃ z, bs s0 = z := ⟨_, rfl⟩
            rw [hzz] at w0
            have hzd : z.data.toList = s0 := by rw [← hzz, bs_data]
            have Z0 : 0 < z.size := by rw [← hzz, bs_size]; exact List.length_pos_iff.2 hs0
            have hz0 : s0.head? = some z[0] := by
              have e1 : s0[0]? = some z[0] := by subst hzd; rw [List.getElem?_eq_getElem (by simpa using Z0)]; congr 1
              rw [← e1]; cases s0 <;> rfl
            have hsk : skipB (s0 :: t) = (z[0] == 35) := by
              show (false || (s0.head? == some 35)) = _
              rw [hz0]; rfl
            have hn1 : 0 < (s0 :: t).length := by simp
            by_cases q : z[0] = 35
            · have e1 : skipB (s0 :: t) = true := by rw [hsk, q]; rfl
              have hE : lineP st (s0 :: t) = (st, 0) := by unfold lineP; rw [if_pos e1]
              have NX2 := NX.out
              rw [hE, if_pos rfl] at NX2
              have NA := Lib.hid (HDR.out _ NX2)
              have T1 : ((z[0].toNat : Int) == 35) = true := by rw [q]; rfl
              obtain ⟨m, hnn⟩ : ∃ n, (s0 :: t).length = n := ⟨_, rfl⟩
              rw [hnn] at hn1 ⊢
              have T0 : ((m : Int) == 0) = false := by rw [beq_eq_false_iff_ne]; omega
              clear NX2 hv2 hcell hzz hzd hz0 hsk e1 q HW hE hs0 WG WZ
              go_wp2
              go_roundw
              case rel => exact ⟨j + 1, a, N, c, st, by go_num, by omega, BX2, BB, RG2, OKS, NA⟩
              case measure => simp [intOf]; omega
            · have e1 : skipB (s0 :: t) = false := by rw [hsk]; exact beq_eq_false_iff_ne.2 q
              have hE : lineP st (s0 :: t) = if perB (s0 :: t) = true then addP st (perV (s0 :: t)) else ([], 2) := by unfold lineP; rw [if_neg (by rw [e1]; decide)]
              have T1 : ((z[0].toNat : Int) == 35) = false := by
                rw [beq_eq_false_iff_ne]; intro k
                exact q (UInt8.toNat_inj.1 (by have : z[0].toNat = 35 := by omega
                                               rw [this]; rfl))
              have PO := rperson_is (s0 :: t) g2 cc w2 HW hgl hlen WZ.out
              have hl1 : (at_ (s0 :: t) 1).length < 4294967281 := by
                unfold at_
                rw [List.getD_eq_getElem?_getD]
                cases e : (s0 :: t)[1]? with
                | none => decide
                | some y => exact WZ.out y (List.mem_of_getElem? e)
              unfold perR at PO
              generalize s0 :: t = ws at *
              obtain ⟨m, hnn⟩ : ∃ n, ws.length = n := ⟨_, rfl⟩
              rw [hnn] at hn1 PO ⊢
              have T0 : ((m : Int) == 0) = false := by rw [beq_eq_false_iff_ne]; omega
              clear hv2 hcell hzz hzd hz0 hsk e1 q HW hs0 WG WZ
              by_cases hB : perB ws = true
              · rw [hB, if_pos rfl] at PO
                rw [if_pos hB] at hE
                obtain ⟨p, hp⟩ : ∃ p, perV ws = p := ⟨_, rfl⟩
                have hpn : p.nm.size ≤ maxLen := by rw [← hp]; show (bs (at_ ws 1)).size ≤ _; rw [bs_size]; unfold maxLen; omega
                rw [hp] at PO hE
                obtain ⟨nm, co, sk, fr, un⟩ := p
                unfold pnV at PO
                dsimp only at PO
                obtain ⟨⟨R1, R2⟩, hR⟩ : ∃ R, addP st ⟨nm, co, sk, fr, un⟩ = R := ⟨_, rfl⟩
                have AD := Lib.hid (fun W (h : RegIn W a N c st) => radd_is a N c st ⟨nm, co, sk, fr, un⟩ W h hpn)
                unfold pnV at AD
                rw [hR] at AD hE
                dsimp only at AD
                have NO := Lib.hid (lineP_ok (ws := ws) OKS.out)
                have NX2 := NX.out
                rw [hE] at NO NX2
                dsimp only at NO NX2
                have NX3 := Lib.hid NX2
                replace PO := Lib.hid PO
                clear hp hB hR hl1 hpn NX2 hE NX
                go_wp2_with fail
                refine PO.out.mono ?_; rintro e w3 ⟨rfl, b3⟩
                have h2y := lt_of_block BX2.out
                have h23 := b3.size
                have PT := PnAt.new w3 ⟨nm, co, sk, fr, un⟩ 27
                have b4 := below_box w3 (.cells #[.string nm, .int .i64 co, .int .i64 sk, .int .i64 fr, .int .i64 un] 27)
                have b24 := b3.trans (b4.mono b3.size)
                have BX4 := Lib.hid (blk b24 h2y BX2.out)
                have BB4 := Lib.hid (BB.out.trans (b24.mono (Nat.le_of_lt h2y)))
                have RG4 := Lib.hid (RG2.out.below b24)
                obtain ⟨c0, -⟩ := cell_atR BX4.out 0
                obtain ⟨q0, q1, q2, q3, q4, -⟩ := PT
                dsimp only at q0 q1 q2 q3 q4
                clear b3 b4 b24 BX2 BB RG2 PO w0
                go_wp2_with fail
                refine (AD.out _ RG4.out).mono ?_; rintro e w5 ⟨a', N', c', rfl, R5, b5⟩
                have h4y := lt_of_block BX4.out
                obtain ⟨V5, hV5⟩ : ∃ W, (w5.alloc (.cells #[.slice none 0 0] 25)).setCell ⟨w5.heap.size, 0, none⟩ (.slice a' N' c') = W := ⟨_, rfl⟩
                obtain ⟨o5, bb5, -, c5, z5⟩ := boxed w5 a' N' c' V5 hV5
                have b55 := b5.trans (bb5.mono b5.size)
                have BX6 := Lib.hid (blk b55 h4y BX4.out)
                have BB6 := Lib.hid (BB4.out.trans (b55.mono (Nat.le_of_lt h4y)))
                have RG6 := Lib.hid (R5.below bb5)
                have O6 := Lib.hid o5.1
                clear b5 b55 bb5 o5 BX4 BB4 RG4 R5 AD c0 q0 q1 q2 q3 q4 h4y h2y h23
                by_cases e0 : R2 = 0
                · subst e0
                  have NX4 := NX3.out
                  rw [if_pos rfl] at NX4
                  have NA := Lib.hid (HDR.out _ NX4)
                  have O9 := Lib.hid (NO.out rfl)
                  have k6 := O6.out
                  obtain ⟨d6, f6⟩ := cell_atR BX6.out 0
                  have hset := set_at (i := 0) (.slice a' N' c') BX6.out
                  have B10 := Lib.hid (BB6.out.setCell (p := ⟨y, 0, none⟩) (Nat.le_refl _) (.slice a' N' c'))
                  have R10 := Lib.hid (RG6.out.set (v := .slice a' N' c') BX6.out)
                  have S10 := Lib.hid hset
                  clear hset NX4
                  go_wp2_with fail
                  first | rw [hV5] | skip
                  clear hV5 c5 z5
                  (try go_wp2)
                  go_roundw
                  case rel => exact ⟨j + 1, a', N', c', R1, by go_num, by omega, S10, B10, R10, O9, NA⟩
                  case measure => simp [intOf]; omega
                · have TE : (R2 != 0) = true := bne_iff_ne.2 e0
                  have NX4 := NX3.out
                  rw [if_neg e0, ← PS.out] at NX4
                  have HF := Lib.hid NX4
                  clear e0 NX4
                  have hbx := blk BB6.out hwx HB1.out
                  obtain ⟨d0, f0⟩ := cell_atR hbx 0
                  have e1 := set_at (i := 0) (.slice none 0 0) hbx
                  have p0 := (cell_atR e1 0).1
                  have BE := Lib.hid ((BW.out.trans (BB6.out.mono (by rw [HXE.out]; omega))).setCell (p := ⟨x, 0, none⟩) (by rw [HXE.out]; exact Nat.le_refl _) (.slice none 0 0))
                  have hw64 : IntKind.i64.wrap ((j : Int) + 1) = ((j + 1 : Nat) : Int) := by rw [IntKind.wrap_i64]; omega
                  clear hbx e1
                  go_wp2
                  refine bodyPost_ret (v := .tuple #[.agg #[.slice none 0 0], .int .i64 ((j + 1 : Nat) : Int), .int .i64 R2]) (by simp [results, Tryz.results24, go_sem, p0]) rfl ?_
                  unfold ParseP
                  rw [HF.out]
                  exact ⟨none, 0, 0, rfl, reg_nil _, by first | exact BE.out | (rw [← HXE.out] at BE; exact BE.out)⟩
              · have hB' : perB ws = false := by cases e : perB ws with
                  | true => exact absurd e hB
                  | false => rfl
                rw [hB', if_neg (by decide)] at PO
                rw [if_neg hB] at hE
                have NX2 := NX.out
                rw [hE, if_neg (by decide), ← PS.out] at NX2
                have HF := Lib.hid NX2
                unfold pnV zP at PO
                dsimp only at PO
                replace PO := Lib.hid PO
                clear hB hB' hl1 hE NX2 NX
                go_wp2_with fail
                refine PO.out.mono ?_; rintro e w3 ⟨rfl, b3⟩
                have h2y := lt_of_block BX2.out
                have b4 := below_box w3 (.cells #[.string ⟨#[]⟩, .int .i64 0, .int .i64 0, .int .i64 0, .int .i64 0] 27)
                have BB4 := Lib.hid (BB.out.trans ((b3.trans (b4.mono b3.size)).mono (Nat.le_of_lt h2y)))
                clear b3 b4 BX2 BB RG2 PO w0 h2y
                have hbx := blk BB4.out hwx HB1.out
                obtain ⟨d0, f0⟩ := cell_atR hbx 0
                have e1 := set_at (i := 0) (.slice none 0 0) hbx
                have p0 := (cell_atR e1 0).1
                have BE := Lib.hid ((BW.out.trans (BB4.out.mono (by rw [HXE.out]; omega))).setCell (p := ⟨x, 0, none⟩) (by rw [HXE.out]; exact Nat.le_refl _) (.slice none 0 0))
                have hw64 : IntKind.i64.wrap ((j : Int) + 1) = ((j + 1 : Nat) : Int) := by rw [IntKind.wrap_i64]; omega
                clear hbx e1
                go_wp2
                refine bodyPost_ret (v := .tuple #[.agg #[.slice none 0 0], .int .i64 ((j + 1 : Nat) : Int), .int .i64 2]) (by simp [results, Tryz.results24, go_sem, p0]) rfl ?_
                unfold ParseP
                rw [HF.out]
                exact ⟨none, 0, 0, rfl, reg_nil _, by first | exact BE.out | (rw [← HXE.out] at BE; exact BE.out)⟩
      · obtain rfl : n = j := by omega
        have BL : Hid (Below w.heap.size w wr) := BW.out.trans (bel.out.mono (by rw [HXE.out]; omega))
        have hf : runP 0 [] (L.map words) = (st, 0, 0) := by
          rw [hat.out, ← HN.out, List.drop_length]; rfl
        have HF : Hid (parseP s = (st, 0, 0)) := by show _ = _; rw [PS.out, hf]
        clear hf
        obtain ⟨c0, -⟩ := cell_atR BX.out 0
        have hbx := blk bel.out hwx HB1.out
        obtain ⟨d0, f0⟩ := cell_atR hbx 0
        have e1 := set_at (i := 0) (.slice a N c) hbx
        have p0 := (cell_atR e1 0).1
        have R9 := Lib.hid (REG.out.set (v := .slice a N c) hbx)
        have BE := Lib.hid (BL.out.setCell (p := ⟨x, 0, none⟩) (by rw [HXE.out]; exact Nat.le_refl _) (.slice a N c))
        clear hbx e1
        go_wp2
        refine bodyPost_ret (v := .tuple #[.agg #[.slice a N c], .int .i64 0, .int .i64 0]) (by simp [results, Tryz.results24, go_sem, p0]) rfl ?_
        unfold ParseP
        rw [HF.out]
        exact ⟨_, _, _, rfl, R9.out, by first | exact BE.out | (rw [← HXE.out] at BE; exact BE.out)⟩
end Go.Proofs.YthdjpmiohfaphaaGreatDoor.reg

/- A table of strings that is a package-level variable: what a row lists of it, what its cells hold. No program's walk in this text. -/
namespace Go.Proofs.YthdjpmiohfaphaaGreatDoor.strs
open Go.RowKit

/-- the table as a row lists it: an array of strings -/
def strData {H : Type} (ss : List (List UInt8)) : DataW H := .agg (ss.map fun s => .lit (.string s))
/-- the variable holds just these strings -/
def StrTab (P : Program) (w : World) (name : String) (ss : List (List UInt8)) : Prop := w.var? P name = some (ss.map fun s => Value.string (bs s)).toArray
theorem cells_of_strs {H : Type} {enc : TypeId × Value → H} {P : Program} {w : World} {base : Nat} {sp : Nat → Bool} {held : Bool} {fuel : Nat} {t e : TypeId} {n : Nat} {cs : List Value} {ss : List (List UInt8)} {p : List MemPlace}
    (ht : P.underlying t = some (.array n e)) (he : P.underlying e = some .string) (hce : P.cellsOf e = 1) (hct : P.cellsOf t = n)
    (h : DataW.trod enc P w base sp held fuel t cs = some (strData ss, p)) : cs = ss.map fun s => Value.string (bs s) := by
  cases fuel with
  | zero => simp [DataW.trod] at h
  | succ fuel =>
    simp only [DataW.trod, ht, hce, hct, Nat.mul_one] at h
    split at h
    · rename_i hl
      obtain ⟨xs, hm, hx⟩ := Option.map_eq_some_iff.1 h
      have hxs : xs.map (·.1) = ss.map fun s => (DataW.lit (.string s) : DataW H) := by
        have := congrArg Prod.fst hx
        simpa [strData] using this
      have hxl : xs.length = n := by simpa using Lib.mapM_length hm
      have hzl : ss.length = n := by
        have := congrArg List.length hxs
        simp at this
        omega
      apply List.ext_getElem?
      intro i
      by_cases hi : i < n
      · obtain ⟨b, hb, hf⟩ := Lib.mapM_at hm i i (by simp [hi])
        obtain ⟨s, hc, hd⟩ := DataW.trod_string he hf
        have h1 : cs[i]? = some (.string s) := by
          have := congrArg (·[0]?) hc
          simpa [List.getElem?_take, List.getElem?_drop] using this
        have h2 : (xs.map (·.1))[i]? = some b.1 := by simp [hb]
        rw [hxs] at h2
        simp only [List.getElem?_map, Option.map_eq_some_iff] at h2
        obtain ⟨s', hs', e⟩ := h2
        have e2 : s' = s.data.toList := by
          have := e.trans (congrArg Prod.fst hd.1)
          simpa using this
        rw [h1, List.getElem?_map, hs', e2]
        simp [bs_of]
      · rw [List.getElem?_eq_none (by omega), List.getElem?_eq_none (by simp; omega)]
    · cases h
/-- from the row's condition: the table stands first on the list -/
theorem strTab_of_head {P : Program} {W : World} {name : String} {ss : List (List UInt8)} {rest : List (String × DataW Unit)} {g : Nat} {t e : TypeId} {n : Nat}
    (hg : P.globalNamed name = some g) (hty : (P.globals[g]?).map (·.type) = some t) (ht : P.underlying t = some (.array n e)) (he : P.underlying e = some .string) (hce : P.cellsOf e = 1) (hct : P.cellsOf t = n)
    (h : laidMet P ((name, strData ss) :: rest) W) : StrTab P W name ss := by
  obtain ⟨ps, ⟨g', t', cs, fuel, p, q, hg', ht', hvar, hd, _, _⟩, _⟩ := h
  obtain rfl := Option.some.inj (hg.symm.trans hg')
  obtain rfl := Option.some.inj (hty.symm.trans ht')
  unfold StrTab
  rw [hvar, ← cells_of_strs ht he hce hct hd]
/-- what a walk reads at an index of the table -/
theorem StrTab.cell {P : Program} {W : World} {name : String} {ss : List (List UInt8)} {g : Nat} (h : StrTab P W name ss) (hg : P.globalNamed name = some g) (i : Nat) (s : List UInt8) (hi : ss[i]? = some s) : W.cell? ⟨g, i, none⟩ = some (.string (bs s)) := by
  have := World.var?_cell hg h i
  rw [this]
  simp [hi]
end Go.Proofs.YthdjpmiohfaphaaGreatDoor.strs

/- The tables that the calls of layer 5 read, where the program laid them. No walk in this text. -/
namespace Go.Proofs.YthdjpmiohfaphaaGreatDoor.reg
open Go.RowKit lex net aggs kit strs cal

theorem RTabs.of {w : World} {zs ps : List Int} {ks : List (List UInt8)} (hz : zs = (List.range 128).map clsI) (hp : ps = Lib.pow10Tab) (hk : ks = (List.range 5).map kwd) (hc : Lib.TabIs Tryz.prog w "permitoffice/lexeme.classes" .u8 zs) (hw : Lib.TabIs Tryz.prog w "internal/strconv.uint64pow10" .u64 ps) (hs : strs.StrTab Tryz.prog w "permitoffice/register.keywords" ks) (hm : HasMax w) : RTabs w where
  ct := ⟨Tabs.of hz hp hc hw, hm⟩
  kws := fun k h5 => hs.cell gKws k (kwd k) (by
    rw [hk, List.getElem?_map, List.getElem?_range h5]; rfl)
end Go.Proofs.YthdjpmiohfaphaaGreatDoor.reg

/- A handed register and a handed person, as the walks are told of them. No walk in this text. -/
namespace Go.Proofs.YthdjpmiohfaphaaGreatDoor.reg
open Go.RowKit Go.ChangeShapes Go.WideShapes Go.Deep Go.Joins lex aggs kit net

theorem cell_blockR {P : Program} {W : World} {b0 T e : Nat} {a : Addr} {len cap : Nat} (ht : P.underlying T = some (.slice e)) (h : Cell.okWide P W .any b0 T (.slice (some a) len cap)) : ∃ b off, a = ⟨b, off, none⟩ ∧ b < W.heap.size := by
  simp only [Cell.okWide, Cell.ok, ht] at h
  obtain ⟨-, -, -, hs, row, cells, hsh, -⟩ := h
  obtain ⟨b, off, spot⟩ := a
  simp only at hs hsh
  subst hs
  refine ⟨b, off, rfl, ?_⟩
  rcases Nat.lt_or_ge b W.heap.size with h | h
  · exact h
  · unfold World.shape? at hsh
    rw [Array.getElem?_eq_none h] at hsh
    cases hsh
/-- a row of structs that was handed in -/
theorem rows_trodR {α H : Type} [Inhabited α] {P : Program} {en : TypeId × Value → H} {W : World} {base fuel b0 T te k : Nat} {spare : Nat → Bool} {held : Bool} {v : Value} {x : DataW H × List MemPlace} (enc : α → List Value) (good : α → Prop) (hlen : ∀ y, (enc y).length = k) (hk0 : 0 < k)
    (hT : P.underlying T = some (.slice te)) (hk : P.cellsOf te = k) (hv : Cell.okWide P W .any b0 T v)
    (dec : ∀ (n : Nat) (cs : List Value) (x : DataW H × List MemPlace), cs.length = k → DataW.trod en P W base spare held n te cs = some x → ∃ y : α, enc y = cs ∧ good y)
    (h : DataW.trod en P W base spare held fuel T [v] = some x) : ∃ a len cap xs, v = .slice a len cap ∧ xs.length = len ∧ RIn enc k W a xs ∧ (∀ y ∈ xs, good y) ∧ len ≤ cap ∧ cap ≤ maxLen ∧ (a = none → cap = 0) := by
  rcases open_slice hT h with ⟨hcs, _⟩ | ⟨a, len, cap, m, n, D, Pl, hcs, _, hl, hm, hmm, _, hx⟩
  · injection hcs with e
    subst e
    exact ⟨none, 0, 0, [], rfl, rfl, .inl ⟨rfl, rfl⟩, (fun y hy => by cases hy), Nat.le_refl _, Nat.zero_le _, fun _ => rfl⟩
  · injection hcs with e
    subst e
    obtain ⟨b, off, rfl, hb⟩ := cell_blockR hT hv
    have hlm : len ≤ m := by rw [hmm]; split <;> omega
    obtain ⟨Y, hY⟩ := choose_lt (α := α) (n := len) (p := fun i y => good y ∧ ∀ j, j < k → W.cell? ⟨b, off + i * k + j, none⟩ = (enc y)[j]?) (fun i hi => by
      obtain ⟨cs', h1, h2⟩ := hx i (by omega)
      rw [hk] at h1
      obtain ⟨_, h3, h4⟩ := World.cells?_some h1
      obtain ⟨y, e, hg⟩ := dec n cs' _ h3 h2
      refine ⟨y, hg, fun j hj => ?_⟩
      have := h4 j hj
      rw [add_plain, add_plain] at this
      rw [e]; exact this)
    refine ⟨some ⟨b, off, none⟩, len, cap, (List.range len).map Y, rfl, by simp, .inr ⟨b, off, rfl, hb, fun i u hu => ?_⟩, fun y hy => ?_, hl, hm, fun e => by cases e⟩
    · have hi : i < len * k := by
        have := (List.getElem?_eq_some_iff.1 hu).1
        rw [flat_length hlen] at this
        simpa using this
      have hd : i / k < len := (Nat.div_lt_iff_lt_mul hk0).2 hi
      have hr : i % k < k := Nat.mod_lt _ hk0
      have e : i / k * k + i % k = i := by rw [Nat.mul_comm]; exact Nat.div_add_mod i k
      rw [← e, flat_get hlen _ (i / k) (by simpa using hd) (i % k) hr] at hu
      have := (hY (i / k) hd).2 (i % k) hr
      simp only [List.getElem_map, List.getElem_range] at hu
      rw [hu] at this
      rw [show off + i = off + i / k * k + i % k by omega]
      exact this
    · obtain ⟨i, hi, rfl⟩ := List.mem_map.1 hy
      exact (hY i (by simpa using hi)).1
set_option maxRecDepth 100000 in
theorem pn_dec {H : Type} {enc : TypeId × Value → H} {W : World} {base fuel : Nat} {spare : Nat → Bool} {held : Bool} {cs : List Value} {x : DataW H × List MemPlace} (hl : cs.length = 5)
    (h : DataW.trod enc Tryz.prog W base spare held fuel 27 cs = some x) : ∃ y : Pn, encPn y = cs ∧ y.nm.size ≤ maxLen ∧ I64 y.sk := by
  obtain ⟨xs, n, -, -, -, hlen, hf⟩ := DataW.trod_struct Tryz.underlying27 h
  have c9 : Tryz.prog.cellsOf 9 = 1 := by kernel_rfl
  have c3 : Tryz.prog.cellsOf 3 = 1 := by kernel_rfl
  match cs, hl with
  | [v0, v1, v2, v3, v4], _ =>
    have h0 := hf 0 _ rfl
    rw [List.getElem?_eq_getElem (by rw [hlen]; decide)] at h0
    have h0 : DataW.trod enc Tryz.prog W base spare held n 9 (([v0, v1, v2, v3, v4].drop 0).take (Tryz.prog.cellsOf 9)) = some _ := h0
    rw [c9] at h0
    have h0 : DataW.trod enc Tryz.prog W base spare held n 9 [v0] = some _ := h0
    have h1 := hf 1 _ rfl
    rw [List.getElem?_eq_getElem (by rw [hlen]; decide)] at h1
    have h1 : DataW.trod enc Tryz.prog W base spare held n 3 (([v0, v1, v2, v3, v4].drop 1).take (Tryz.prog.cellsOf 3)) = some _ := h1
    rw [c3] at h1
    have h1 : DataW.trod enc Tryz.prog W base spare held n 3 [v1] = some _ := h1
    have h2 := hf 2 _ rfl
    rw [List.getElem?_eq_getElem (by rw [hlen]; decide)] at h2
    have h2 : DataW.trod enc Tryz.prog W base spare held n 3 (([v0, v1, v2, v3, v4].drop 2).take (Tryz.prog.cellsOf 3)) = some _ := h2
    rw [c3] at h2
    have h2 : DataW.trod enc Tryz.prog W base spare held n 3 [v2] = some _ := h2
    have h3 := hf 3 _ rfl
    rw [List.getElem?_eq_getElem (by rw [hlen]; decide)] at h3
    have h3 : DataW.trod enc Tryz.prog W base spare held n 3 (([v0, v1, v2, v3, v4].drop 3).take (Tryz.prog.cellsOf 3)) = some _ := h3
    rw [c3] at h3
    have h3 : DataW.trod enc Tryz.prog W base spare held n 3 [v3] = some _ := h3
    have h4 := hf 4 _ rfl
    rw [List.getElem?_eq_getElem (by rw [hlen]; decide)] at h4
    have h4 : DataW.trod enc Tryz.prog W base spare held n 3 (([v0, v1, v2, v3, v4].drop 4).take (Tryz.prog.cellsOf 3)) = some _ := h4
    rw [c3] at h4
    have h4 : DataW.trod enc Tryz.prog W base spare held n 3 [v4] = some _ := h4
    obtain ⟨s0, e0, -, z0⟩ := DataW.trod_string Tryz.underlying9 h0
    injection e0 with e0
    subst e0
    obtain ⟨n1, e1, -, -⟩ := DataW.trod_int Tryz.underlying3 h1
    injection e1 with e1
    subst e1
    obtain ⟨n2, e2, -, z2⟩ := DataW.trod_int Tryz.underlying3 h2
    injection e2 with e2
    subst e2
    have b2 := bounds_i64 z2
    obtain ⟨n3, e3, -, -⟩ := DataW.trod_int Tryz.underlying3 h3
    injection e3 with e3
    subst e3
    obtain ⟨n4, e4, -, -⟩ := DataW.trod_int Tryz.underlying3 h4
    injection e4 with e4
    subst e4
    exact ⟨⟨s0, n1, n2, n3, n4⟩, rfl, z0, b2.1, b2.2⟩
set_option maxRecDepth 100000 in
theorem reg_arg {H : Type} {enc : TypeId × Value → H} {W : World} {base b0 : Nat} {spare : Nat → Bool} {held : Bool} {v : Value} {d : DataW H} {p : List MemPlace}
    (hv : Value.okWide Tryz.prog W .any b0 25 v) (h : DataW.Trod enc Tryz.prog W base spare held 25 v d p) :
    ∃ a N c ps, v = .agg #[.slice a N c] ∧ RegIn W a N c ps ∧ SkI ps := by
  have hv0 := hv
  obtain ⟨cs, rfl, hsz⟩ := okWide_struct Tryz.underlying25 hv
  obtain ⟨v0, rfl⟩ : ∃ v0, cs = #[v0] := by
    have h1 : cs.size = 1 := hsz.trans (by kernel_rfl)
    match cs, h1 with
    | ⟨[v0]⟩, _ => exact ⟨v0, rfl⟩
  simp only [Value.okWide, Tryz.underlying25] at hv0
  obtain ⟨cs, e, -, ts, hts, -, hrow⟩ := hv0
  injection e with e
  subst e
  obtain rfl : ts = [23] := by
    have : Tryz.prog.cellTypes Tryz.prog.depth 25 = some [23] := by kernel_rfl
    rw [this] at hts; injection hts with hts; exact hts.symm
  obtain ⟨u0, e0, k0⟩ := hrow 0 v0 rfl
  obtain rfl : u0 = 23 := by simpa using e0.symm
  obtain ⟨fuel, hf⟩ := h
  obtain ⟨xs, n, -, -, -, hlen, hx⟩ := DataW.trod_struct Tryz.underlying25 hf
  have c0 : Tryz.prog.cellsOf 23 = 1 := by kernel_rfl
  have t0 := hx 0 _ rfl
  rw [List.getElem?_eq_getElem (by rw [hlen]; decide)] at t0
  obtain ⟨y0, hy0⟩ : ∃ y, DataW.trod enc Tryz.prog W base spare held n 23 ((((Value.agg #[v0]).cells.toList).drop 0).take (Tryz.prog.cellsOf 23)) = some y := ⟨_, t0⟩
  rw [c0] at hy0
  have hy1 : DataW.trod enc Tryz.prog W base spare held n 23 [v0] = some y0 := by simpa [Value.cells] using hy0
  obtain ⟨a, N, c, ps, rfl, l1, r1, g1, c1, c2, c3⟩ := rows_trodR encPn (fun y => y.nm.size ≤ maxLen ∧ I64 y.sk) encPn_len (by decide) Tryz.underlying23 (by kernel_rfl) k0 (fun _ _ _ hl h => pn_dec hl h) hy1
  refine ⟨a, N, c, ps, rfl, ⟨l1, r1, fun y hy => (g1 y hy).1, c1, c2, c3⟩, fun y hy => (g1 y hy).2⟩
set_option maxRecDepth 100000 in
theorem per_arg {H : Type} {enc : TypeId × Value → H} {W : World} {base b0 : Nat} {spare : Nat → Bool} {held : Bool} {v : Value} {d : DataW H} {p : List MemPlace}
    (hv : Value.okWide Tryz.prog W .any b0 27 v) (h : DataW.Trod enc Tryz.prog W base spare held 27 v d p) :
    ∃ q : Pn, v = pnV q ∧ q.nm.size ≤ maxLen ∧ I64 q.sk := by
  obtain ⟨cs, rfl, hsz⟩ := okWide_struct Tryz.underlying27 hv
  have h5 : cs.toList.length = 5 := by rw [Array.length_toList]; exact hsz.trans (by kernel_rfl)
  obtain ⟨fuel, hf⟩ := h
  have hf1 : DataW.trod enc Tryz.prog W base spare held fuel 27 cs.toList = some (d, p) := by simpa [Value.cells] using hf
  obtain ⟨q, e, h1, h2⟩ := pn_dec h5 hf1
  refine ⟨q, ?_, h1, h2⟩
  obtain ⟨l⟩ := cs
  have e' : encPn q = l := e
  rw [← e']
  rfl
end Go.Proofs.YthdjpmiohfaphaaGreatDoor.reg
