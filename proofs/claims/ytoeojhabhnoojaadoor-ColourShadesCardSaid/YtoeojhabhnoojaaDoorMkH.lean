/- The walk of layer 6's numbered: the state with a number. Condition: at most 64 elements. -/
import Derived.Test.YtoeojhabhnoojaaDoorMkG
import Derived.Laws.BitsAllLaws
namespace Go.Proofs.YtoeojhabhnoojaaDoor.msk
open Go.RowKit Go.Shelf lex aggs kit net deck
attribute [local go_sem] Oper.semAt_some

/-- the state with number k, the last t unknown ones set -/
def curN (xs : List Int) (k t : Nat) : List Int := (List.range xs.length).map fun i => if at0 xs i = 3 then if (unkL xs).length ≤ t + (unk (at0 xs) i).length then stA (at0 xs) xs.length k i else 1 else at0 xs i
theorem curN_len (xs : List Int) (k t : Nat) : (curN xs k t).length = xs.length := by simp [curN]
theorem curN_at {xs : List Int} {k t i : Nat} (hi : i < xs.length) : at0 (curN xs k t) i = if at0 xs i = 3 then if (unkL xs).length ≤ t + (unk (at0 xs) i).length then stA (at0 xs) xs.length k i else 1 else at0 xs i := by
  rw [at0_get (by rw [curN_len]; exact hi)]; simp [curN]
theorem curN_zero (xs : List Int) (k : Nat) : curN xs k 0 = setL 1 xs := by
  refine ext0 (by rw [curN_len, setL_len]) (fun i hi => ?_)
  rw [curN_len] at hi
  rw [curN_at hi, setL_at hi]
  by_cases h : at0 xs i = 3
  · have := unk_lt hi h
    rw [if_pos h, if_pos h, if_neg (by rw [unkL]; omega)]
  · rw [if_neg h, if_neg h]
theorem curN_end (xs : List Int) (k : Nat) : curN xs k (unkL xs).length = stL xs k := by
  refine ext0 (by rw [curN_len, stL_len]) (fun i hi => ?_)
  rw [curN_len] at hi
  rw [curN_at hi, stL_at hi]
  by_cases h : at0 xs i = 3
  · rw [if_pos h, if_pos (by omega)]
  · rw [if_neg h, stA_plain h]
theorem curN_step {xs : List Int} {k t d : Nat} (ht : t < (unkL xs).length) (h : (unkL xs)[(unkL xs).length - 1 - t]? = some d) :
    curN xs k (t + 1) = if k / 2 ^ t % 2 = 1 then (curN xs k t).set d 2 else curN xs k t := by
  obtain ⟨h1, h2, h3⟩ := unk_place h
  have hA : stA (at0 xs) xs.length k d = 1 + ((k / 2 ^ t % 2 : Nat) : Int) := by
    unfold stA
    rw [if_pos h2, h3]
    have e : (unk (at0 xs) xs.length).length - 1 - ((unkL xs).length - 1 - t) = t := by rw [unkL] at ht ⊢; omega
    rw [e]
  have key : ∀ i, i < xs.length → i ≠ d → at0 (curN xs k (t + 1)) i = at0 (curN xs k t) i := fun i hi e => by
    rw [curN_at hi, curN_at hi]
    by_cases h5 : at0 xs i = 3
    · have hne : (unk (at0 xs) i).length ≠ (unkL xs).length - 1 - t := fun e2 => by
        have h6 := unk_at hi h5
        rw [e2] at h6
        have h4 : (unk (at0 xs) xs.length)[(unkL xs).length - 1 - t]? = some d := h
        rw [h6] at h4
        exact e (Option.some.inj h4)
      rw [if_pos h5, if_pos h5]
      by_cases hk : (unkL xs).length ≤ t + (unk (at0 xs) i).length
      · rw [if_pos hk, if_pos (by omega)]
      · rw [if_neg hk, if_neg (by omega)]
    · rw [if_neg h5, if_neg h5]
  by_cases hb : k / 2 ^ t % 2 = 1
  · rw [if_pos hb]
    refine ext0 (by rw [List.length_set, curN_len, curN_len]) (fun i hi => ?_)
    rw [curN_len] at hi
    rw [at0_set _ (by rw [curN_len]; exact h1)]
    by_cases e : i = d
    · subst e
      rw [if_pos rfl, curN_at hi, if_pos h2, if_pos (by omega), hA, hb]; rfl
    · rw [if_neg e]; exact key i hi e
  · rw [if_neg hb]
    refine ext0 (by rw [curN_len, curN_len]) (fun i hi => ?_)
    rw [curN_len] at hi
    by_cases e : i = d
    · subst e
      rw [curN_at hi, curN_at hi, if_pos h2, if_pos h2, if_pos (by omega), if_neg (by omega), hA]
      have : k / 2 ^ t % 2 = 0 := by omega
      rw [this]; rfl
    · exact key i hi e
/-- the unknown devices with their places -/
theorem us_of (xs : List Int) (N : Nat) (hN : xs.length = N) : ∃ us : List (Nat × Fin N), us.length = (unkL xs).length ∧ ∀ j (hj : j < us.length), us[j].1 = j ∧ (unkL xs)[j]? = some (us[j].2 : Nat) := by
  refine ⟨List.ofFn (fun j : Fin (unkL xs).length => (j.1, ⟨(unkL xs)[j.1], by
    rw [← hN]; exact (unk_place (List.getElem?_eq_getElem j.2)).1⟩)), by simp, fun j hj => ?_⟩
  simp at hj
  simp [hj]
theorem bit_one (k : Nat) (h : k < 1024) : bits BinOp.and IntKind.i64 (k : Int) 1 = ((k % 2 : Nat) : Int) := by
  have e : bits BinOp.and IntKind.i64 (k : Int) 1 = IntKind.i64.wrap ((BitVec.ofInt 64 (k : Int) &&& BitVec.ofInt 64 ((1 : Nat) : Int)).toNat : Int) := rfl
  rw [e, BitVec.toNat_and, Go.ofInt_u64 k (by omega), Go.ofInt_u64 1 (by omega), Nat.and_one_is_mod]
  exact IntWalk.i64_in _ (by omega)
theorem own_kept {A B : World} {base : Nat} {v : Value} {S : List Int} {row : Option Nat} (h : OwnI A base v S) (hg : A.grownBy B row) (hr : ∀ r, row = some r → ∃ o : Obj, A.heap[r]? = some o ∧ o.isCells = false) : OwnI B base v S := by
  refine World.ownsRow.kept h hg ?_
  rcases h.2 with ⟨rfl, _⟩ | ⟨g, cap, cur, rfl, h1, h2, _⟩
  · exact .inl rfl
  · right
    intro e
    obtain ⟨o, h3, h4⟩ := hr g e.symm
    rw [h2] at h3
    cases h3
    simp [Obj.isCells] at h4
/-- what holds between two rounds -/
def INum (w : World) (N b0 b7 base : Nat) (v : Value) (xs : List Int) (k : Nat) (us : List (Nat × Fin N)) (pre : List (Nat × Fin N)) (W : World) : Prop :=
  ((∃ (S : List Int) (q : Nat), q < 1024 ∧ OwnI W base v S ∧ S.length = N ∧ (W.cell? ⟨b0, 0, none⟩ = some (.int .i64 (q : Int)) ∧ W.frozen? ⟨b0, 0, none⟩ = false) ∧ W.cell? ⟨b7, 0, none⟩ = some v ∧
    (pre = us.reverse.take pre.length → S = curN xs k pre.length ∧ q = k / 2 ^ pre.length))) ∧ Below w.heap.size w W
theorem good_step {xs : List Int} {N k q : Nat} {us pre : List (Nat × Fin N)} {x : Nat × Fin N} {S : List Int} (_hN : xs.length = N) (h1 : us.length = (unkL xs).length) (h2 : ∀ j (hj : j < us.length), us[j].1 = j ∧ (unkL xs)[j]? = some (us[j].2 : Nat))
    (hp : pre.length < us.length) (hg : pre = us.reverse.take pre.length → S = curN xs k pre.length ∧ q = k / 2 ^ pre.length) :
    (q % 2 = 1 → (pre ++ [x] = us.reverse.take (pre ++ [x]).length → S.set x.2 2 = curN xs k (pre ++ [x]).length ∧ q / 2 = k / 2 ^ (pre ++ [x]).length)) ∧
    (¬ q % 2 = 1 → (pre ++ [x] = us.reverse.take (pre ++ [x]).length → S = curN xs k (pre ++ [x]).length ∧ q / 2 = k / 2 ^ (pre ++ [x]).length)) := by
  have key : pre ++ [x] = us.reverse.take (pre ++ [x]).length → (S = curN xs k pre.length ∧ q = k / 2 ^ pre.length) ∧ (unkL xs)[(unkL xs).length - 1 - pre.length]? = some (x.2 : Nat) := fun h => by
    rw [List.length_append, List.length_singleton, List.take_succ_eq_append_getElem (by rw [List.length_reverse]; exact hp)] at h
    obtain ⟨e1, e2⟩ := List.append_inj' h rfl
    refine ⟨hg e1, ?_⟩
    rw [List.getElem_reverse] at e2
    have e3 : us[us.length - 1 - pre.length] = x := by simpa using e2.symm
    have := (h2 (us.length - 1 - pre.length) (by omega)).2
    rw [e3, h1] at this; exact this
  have hl : (pre ++ [x]).length = pre.length + 1 := by simp
  have hdv : ∀ q, q = k / 2 ^ pre.length → q / 2 = k / 2 ^ (pre.length + 1) := fun q e => by rw [e, Nat.div_div_eq_div_mul, Nat.pow_succ]
  refine ⟨fun hb h => ?_, fun hb h => ?_⟩
  · obtain ⟨⟨g1, g2⟩, g3⟩ := key h
    rw [hl, curN_step (by omega) g3, if_pos (by rw [← g2]; exact hb), g1]
    exact ⟨rfl, hdv q g2⟩
  · obtain ⟨⟨g1, g2⟩, g3⟩ := key h
    rw [hl, curN_step (by omega) g3, if_neg (by rw [← g2]; exact hb), ← g1]
    exact ⟨rfl, hdv q g2⟩
theorem INum.own (w : World) (N b0 b7 base : Nat) (v : Value) (xs : List Int) (k : Nat) (us : List (Nat × Fin N)) (B : Nat) (hB : w.heap.size ≤ B) : OwnFrom B (INum w N b0 b7 base v xs k us) :=
  OwnFrom.and (Own.from (fun s X Y row hs hg hr => by
    obtain ⟨S, q, h1, h2, h3, h4, h5, h6⟩ := hs
    exact ⟨S, q, h1, own_kept h2 hg hr, h3, ⟨cell_kept h4.1 hg hr, (frozen_kept h4.1 hg hr).trans h4.2⟩, cell_kept h5 hg hr, h6⟩) _) (ownFrom_below (Nat.le_refl _) hB)
set_option maxRecDepth 100000 in
set_option maxHeartbeats 4000000 in
theorem numbered_is (a b : Option Addr) (N c U d : Nat) (xs : List Int) (k : Nat) (w : World) (h : LIn w a N c xs) (hu : LIn w b U d (ints (unkL xs))) (h64 : N ≤ 64) (hk : k < 1024) :
    Calls Tryd.prog 51 #[.slice a N c, .slice b U d, .int .i64 (k : Int)] w (NewI w (stL xs k)) := by
  obtain ⟨us, hus1, hus2⟩ := us_of xs N h.len
  have hUl := hu.len
  rw [ints_len] at hUl
  have hU64 : U ≤ 64 := by have := unk_le (at0 xs) xs.length; rw [← hUl, unkL]; have := h.len; omega
  have HL := Lib.hid (fun wr (b : Below w.heap.size w wr) => h.below b)
  have HU := Lib.hid (fun wr (b : Below w.heap.size w wr) => hu.below b)
  have HN := Lib.hid h.len
  have HUL := Lib.hid hUl
  have US1 := Lib.hid hus1
  have US2 := Lib.hid hus2
  have hcap := hu.cap
  clear h hu hus1 hus2 hUl
  refine callsIn_wide (n := 3).1 ?_
  refine callsIn_of_wp_marks Tryd.func51 rfl trivial ?_ rfl
  simp only [Tryd.ntmps51, List.size_toArray, List.length_cons, List.length_nil, Nat.reduceAdd, Nat.reduceSub, Array.replicate_succ, Array.replicate_zero, List.push_toArray, List.append_toArray, List.nil_append, List.cons_append]
  have b0 := below_box w (.cells #[.int .i64 (k : Int)] 3)
  have bN := Boxed.new w 3 (.int .i64 (k : Int))
  have B0 := Lib.hid b0
  have BN := Lib.hid bN
  clear b0 bN
  gi_wp2_with fail
  refine ⟨trivial, (callsIn_wide.2 (lowest_is a N c xs _ (HL.out _ B0.out) h64)).mono ?_⟩
  rintro e w1 ⟨v, rfl, hv, b1⟩
  obtain ⟨av, cv, rfl, -, -⟩ := hv.lin
  rw [setL_len, HN.out] at hv ⊢
  have V1 := Lib.hid hv
  have B1 := Lib.hid b1
  clear hv b1
  gi_wp2_with fail
  refine ⟨trivial, (callsIn_wide.2 (bwd_is b U d _)).mono ?_⟩
  rintro e w2 ⟨rfl, hw2⟩
  have SZ0 : w.heap.size < w1.heap.size := by have := B1.out.size; simp at this; omega
  obtain ⟨W3, hW3⟩ : ∃ W3, (w1.alloc (.cells #[.slice av N cv] 22)).alloc (.cells #[.slice b U d] 22) = W3 := ⟨_, rfl⟩
  have SZ3 : W3.heap.size = w1.heap.size + 1 + 1 := by rw [← hW3]; simp
  have b7 := Boxed.new w1 22 (.slice av N cv)
  have bS := Boxed.new (w1.alloc (.cells #[.slice av N cv] 22)) 22 (.slice b U d)
  have b7' := (b7.alloc (.cells #[.slice b U d] 22)).cell
  have bS' := bS.cell
  have X1 := (below_box w1 (.cells #[.slice av N cv] 22)).trans ((below_box _ (.cells #[.slice b U d] 22)).mono (by simp))
  rw [World.size_alloc] at bS'
  rw [hW3] at b7' bS' X1 hw2
  subst hw2
  have V3 := Lib.hid (AggsAt.below V1.out X1)
  have C0 := (B1.out.cell (p := ⟨w.heap.size, 0, none⟩) (by simp)).trans BN.out.cell
  have F0 := (B1.out.frozen (p := ⟨w.heap.size, 0, none⟩) (by simp)).trans BN.out.frozen
  have C3 := Lib.hid ((X1.cell (p := ⟨w.heap.size, 0, none⟩) SZ0).trans C0)
  have F3 := Lib.hid ((X1.frozen (p := ⟨w.heap.size, 0, none⟩) SZ0).trans F0)
  have BW := Lib.hid ((B0.out.trans (B1.out.mono (by simp))).trans (X1.mono (Nat.le_of_lt SZ0)))
  have C7 := Lib.hid b7'
  have CS := Lib.hid bS'
  have HU3 := Lib.hid (HU.out _ BW.out)
  have HKP : Hid (∀ j, (j = w1.heap.size + 1 ∨ 0 < U ∧ ∃ p, b = some p ∧ j = p.block) → j = w1.heap.size + 1 ∨ j < w.heap.size) := by
    rintro j (rfl | ⟨hpU, p, hp, rfl⟩)
    · exact .inl rfl
    · obtain ⟨g, o, h, h2, _⟩ := (HU.out w (Below.refl _ _)).rin.some (by rw [ints_len, HUL.out]; exact hpU)
      rw [h] at hp; cases hp; exact .inr h2
  have I0 : Hid (INum w N w.heap.size w1.heap.size (w.alloc (.cells #[.int .i64 (k : Int)] 3)).heap.size (.slice av N cv) xs k us [] W3) :=
    ⟨⟨setL 1 xs, k, hk, V3.out, by rw [setL_len, HN.out], ⟨C3.out, F3.out⟩, C7.out, fun _ => ⟨(curN_zero xs k).symm, by simp⟩⟩, BW.out⟩
  clear b7 bS b7' bS' X1 C0 F0 hW3
  gi_wp2_with fail
  refine wpIn_rangeFunc_ownF rfl (by decide) (gf := 70) (lb := #[.pointer (some ⟨w1.heap.size + 1, 0, none⟩)]) rfl trivial (enters_of Tryd.func70 (by kernel_rfl) rfl)
    (encs := fun x : Nat × Fin N => #[.int .i64 (x.1 : Int), .int .i64 ((x.2 : Nat) : Int)]) (Kp := Kp (fun j => j = w1.heap.size + 1 ∨ 0 < U ∧ ∃ p, b = some p ∧ j = p.block)) (S := fun ys => ys = us.reverse) (Sp := fun _ => True) (N := U) (w0 := W3) ?seq
    (fun h k => h.trans k) ?kb (Below.refl _ _) (fun _ => rfl)
    (INum w N w.heap.size w1.heap.size (w.alloc (.cells #[.int .i64 (k : Int)] 3)).heap.size (.slice av N cv) xs k us) (fun _ _ _ => False)
    (INum.own _ _ _ _ _ _ _ _ _ _ (by omega)) (fun _ _ _ _ _ hs _ _ => hs) I0.out
    (fun x => { tmps := #[.slice a N c, .slice b U d, .int .i64 (k : Int), undef, undef, .pointer (some ⟨w.heap.size, 0, none⟩), .slice none 0 0, .pointer (some ⟨w1.heap.size, 0, none⟩), undef, .int .i64 ((x.2 : Nat) : Int), .slice a N c, .slice av N cv, .slice b U d, .func (.func 70) #[] #[.pointer (some ⟨w1.heap.size + 1, 0, none⟩)], .int .i64 (x.1 : Int), .int .i64 ((x.2 : Nat) : Int), undef, undef, undef, undef, undef, undef, undef, undef, undef], defers := [] }) ?assign ?body ?done ?stop
  case seq =>
    intro l J Jx W hW _ _ hY h0
    refine bwd1_in 2 (by decide) l (w1.heap.size + 1) U d N b us (by rw [US1.out, HUL.out]) hU64 _ (.inl rfl) J Jx hY W ((hW.cell (p := ⟨w1.heap.size + 1, 0, none⟩) (by show w1.heap.size + 1 < _; omega)).trans CS.out) hcap (fun j hj => ?_) h0
    have hj2 : j < (ints (unkL xs)).length := by rw [ints_len, ← US1.out]; exact hj
    obtain ⟨g, o, e, hg, hc⟩ := HU3.out.rin.some (by omega)
    refine ⟨(US2.out j hj).1, g, o, e, .inr ⟨by rw [← HUL.out, ← US1.out]; omega, _, e, rfl⟩, ?_⟩
    have := cells_i hc j hj2
    rw [ints_get (US2.out j hj).2] at this
    exact (hW.cell (p := ⟨g, o + j, none⟩) hg).trans this
  case kb =>
    intro W l o o' hl ho _ _ j hj
    exact World.putObj_heap_other (by rcases HKP.out j hj with e | e <;> omega)
  case assign =>
    intro l x W K hK
    gi_wp2
    exact hK
  case body =>
    rintro l pre x W ⟨⟨S, q, hq, own, hlen, ⟨c0, f0⟩, c7, hgood⟩, bel⟩ hpre
    obtain ⟨g, rfl, -, hbg, hgs, -, -, hcell⟩ := own.some (Nat.lt_of_le_of_lt (Nat.zero_le _) x.2.2)
    have hg1 : g < w1.heap.size := (World.ownsRow.lt V1.out g rfl).2
    rw [World.size_alloc] at hbg
    obtain ⟨c1, f1⟩ := hcell x.2 x.2.2
    have hb := bit_one q hq
    have GS := Lib.hid (good_step (q := q) (S := S) (x := x) HN.out US1.out US2.out (by rw [US1.out, HUL.out]; exact hpre) hgood)
    have hd2 : IntKind.i64.wrap ((q : Int) / 2) = ((q / 2 : Nat) : Int) := by rw [IntWalk.i64_in _ (by omega)]; rfl
    have XN := x.2.2
    have OWN := Lib.hid own
    have HLEN := Lib.hid hlen
    have BEL := Lib.hid bel
    have hne : ¬ g = w.heap.size := by omega
    have hne2 : ¬ w.heap.size = g := by omega
    clear hgood hcell own hlen bel
    by_cases hbit : q % 2 = 1
    · have T1 : (bits BinOp.and IntKind.i64 (q : Int) 1 == 1) = true := by rw [hb, hbit]; rfl
      have st := OWN.out.set HLEN.out x.2 XN 2
      have G2 := Lib.hid (GS.out.1 hbit)
      have ST1 := Lib.hid st.1
      have ST2 := Lib.hid st.2
      clear st hb GS
      gi_wp2
      have c0' : (W.setCell ⟨g, x.2, none⟩ (.int .i64 2)).cell? ⟨w.heap.size, 0, none⟩ = some (.int .i64 (q : Int)) := ST2.out.cell c0 (by simpa using hne2)
      have f0' : (W.setCell ⟨g, x.2, none⟩ (.int .i64 2)).frozen? ⟨w.heap.size, 0, none⟩ = false := by rw [World.frozen?_setCell]; exact f0
      have c7' : (W.setCell ⟨g, x.2, none⟩ (.int .i64 2)).cell? ⟨w1.heap.size, 0, none⟩ = some (.slice (some ⟨g, 0, none⟩) N cv) := ST2.out.cell c7 (by simp; omega)
      have gs2 : (W.setCell ⟨g, x.2, none⟩ (.int .i64 2)).grownBy ((W.setCell ⟨g, x.2, none⟩ (.int .i64 2)).setCell ⟨w.heap.size, 0, none⟩ (.int .i64 ((q : Int) / 2))) (some w.heap.size) := gb_set _ (gb_refl _ _)
      refine ⟨(KeepsOthers.setCell _ _ _).trans (KeepsOthers.setCell _ _ _), fun j hj => ?_, ⟨S.set x.2 2, q / 2, by omega, AggsAt.grown ST1.out gs2 (fun j hj => by cases hj; simp), by rw [List.length_set]; exact HLEN.out,
        ⟨World.cell?_setCell_same' _ _ _ (by rw [c0']; rfl), by rw [World.frozen?_setCell]; exact f0'⟩, gs2.cell c7' (by simp; omega), G2.out⟩,
        (BEL.out.grown ST2.out BEL.out.size (fun j hj => by cases hj; omega)).setCell (p := ⟨w.heap.size, 0, none⟩) (Nat.le_refl _) _⟩
      have hj2 := HKP.out j hj
      exact (Below.heap_setCell _ _ _ j (show j ≠ w.heap.size by omega)).trans (Below.heap_setCell _ _ _ j (show j ≠ g by omega))
    · have T1 : (bits BinOp.and IntKind.i64 (q : Int) 1 == 1) = false := by
        rw [hb]; exact beq_eq_false_iff_ne.2 (by omega)
      have G2 := Lib.hid (GS.out.2 hbit)
      clear hb GS
      gi_wp2
      have gs2 : W.grownBy (W.setCell ⟨w.heap.size, 0, none⟩ (.int .i64 ((q : Int) / 2))) (some w.heap.size) := gb_set _ (gb_refl _ _)
      refine ⟨KeepsOthers.setCell _ _ _, fun j hj => ?_, ⟨S, q / 2, by omega, AggsAt.grown OWN.out gs2 (fun j hj => by cases hj; simp), HLEN.out,
        ⟨World.cell?_setCell_same' _ _ _ (by rw [c0]; rfl), by rw [World.frozen?_setCell]; exact f0⟩, gs2.cell c7 (by simp; omega), G2.out⟩,
        BEL.out.setCell (p := ⟨w.heap.size, 0, none⟩) (Nat.le_refl _) _⟩
      have hj2 := HKP.out j hj
      exact Below.heap_setCell _ _ _ j (show j ≠ w.heap.size by omega)
  case done =>
    rintro D ys W hD rfl ⟨⟨S, q, hq, own, hlen, -, c7, hgood⟩, bel⟩ hK
    have fin : S = stL xs k := by
      rw [(hgood (by rw [List.take_of_length_le (Nat.le_refl _)])).1, List.length_reverse, US1.out, curN_end]
    have FIN := Lib.hid fin
    have OWN := Lib.hid own
    have BEL := Lib.hid bel
    clear fin own bel hgood hlen
    gi_wp2
    refine ⟨by simp, .inl ⟨_, _, rfl, run_takeDeferred hK, ?_⟩⟩
    refine ⟨_, results_tmp rfl _ _ _, _, rfl, ?_, BEL.out.trans (belowK_b (w := w) (Nat.le_refl _) W D _ _ (by omega) hK rfl rfl)⟩
    rw [← FIN.out]
    exact AggsAt.mono (own_kept OWN.out (grownBy_putObj' _ D _) (fun r e => by cases e; exact ⟨_, hK, rfl⟩)) (by simp)
  case stop =>
    rintro D c pre W _ _ h _
    exact h.elim
end Go.Proofs.YtoeojhabhnoojaaDoor.msk
