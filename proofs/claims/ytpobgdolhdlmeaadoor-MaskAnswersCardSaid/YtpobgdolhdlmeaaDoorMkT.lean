/- The walk of layer 6's reference All. Condition: at most 64 elements. -/
import Derived.Test.YtpobgdolhdlmeaaDoorMkR
namespace Go.Proofs.YtpobgdolhdlmeaaDoor.msk
open Go.RowKit lex aggs kit net deck

/-- what one element makes of one state -/
def stpL (x : Int) (s : List Int) : List (List Int) := (if x = 1 ∨ x = 3 then [s ++ [1]] else []) ++ (if x = 2 ∨ x = 3 then [s ++ [2]] else [])
def part (x : Int) (s : List Int) (p : Nat) : List (List Int) := if p = 1 then [] else if p = 2 then (if x = 1 ∨ x = 3 then [s ++ [1]] else []) else stpL x s
theorem part_one (x : Int) (s : List Int) : part x s 1 = [] := rfl
theorem part_three (x : Int) (s : List Int) : part x s 3 = stpL x s := rfl
theorem part_step (x : Int) (s : List Int) (p : Nat) (hp : p = 1 ∨ p = 2) (hx : 1 ≤ x ∧ x ≤ 3) : part x s (p + 1) = if andI x p = 0 then part x s p else part x s p ++ [s ++ [(p : Int)]] := by
  rcases hp with rfl | rfl <;> rcases three hx with rfl | rfl | rfl <;> simp [part, stpL, andI]
theorem part_le (x : Int) (s : List Int) (p : Nat) : (part x s p).length ≤ 2 := by
  unfold part stpL; repeat (first | (simp only [List.length_append, List.length_nil, List.length_singleton]; omega) | split)
theorem allN_succ (f : Nat → Int) (n : Nat) : allN f (n + 1) = (allN f n).flatMap (stpL (f n)) := rfl
theorem flat_le (x : Int) (l : List (List Int)) : (l.flatMap (stpL x)).length ≤ 2 * l.length := by
  induction l with
  | nil => simp
  | cons s l ih =>
    rw [List.flatMap_cons, List.length_append, List.length_cons]
    have := part_le x s 3
    rw [part_three] at this
    omega
theorem flat_take {x : Int} {l : List (List Int)} {k : Nat} (h : k < l.length) : (l.take (k + 1)).flatMap (stpL x) = (l.take k).flatMap (stpL x) ++ stpL x l[k] := by
  rw [List.take_succ_eq_append_getElem h, List.flatMap_append]; simp
theorem allN_el {f : Nat → Int} {n : Nat} : ∀ s ∈ allN f n, s.length = n := by
  induction n with
  | zero => intro s hs; rw [allN, List.mem_singleton] at hs; rw [hs]; rfl
  | succ n ih =>
    intro s hs
    rw [allN_succ, List.mem_flatMap] at hs
    obtain ⟨t, ht, h⟩ := hs
    have := ih t ht
    unfold stpL at h
    rcases List.mem_append.1 h with h | h <;> (split at h <;> simp at h <;> subst h <;> simp [this])
theorem allN_len {f : Nat → Int} {n : Nat} (h : ∀ i, i < n → 1 ≤ f i ∧ f i ≤ 3) : (allN f n).length = 2 ^ (unk f n).length := by
  rw [allN_eq f n h]; simp
/-- a slice of slices of ints of the call's own, its row apart from its elements -/
def RowsA (w : World) (base : Nat) (v : Value) (xss : List (List Int)) : Prop :=
  ∃ vs : List Value, vs.length = xss.length ∧ AggsAt 22 1 encV w base v vs ∧ ∀ (i : Nat) (xs : List Int), xss[i]? = some xs → ∃ u : Value, vs[i]? = some u ∧ OwnI w base u xs ∧ ∀ k, v.ownBlock = some k → u.ownBlock ≠ some k
theorem RowsA.nil (w : World) (base : Nat) : RowsA w base (.slice none 0 0) [] := ⟨[], rfl, AggsAt.nil _ _ _ _ _, fun i xs h => by simp at h⟩
theorem RowsA.rows {w : World} {base : Nat} {v : Value} {xss : List (List Int)} (h : RowsA w base v xss) : RowsI w base v xss := by
  obtain ⟨vs, h1, h2, h3⟩ := h
  exact ⟨vs, h1, h2, fun i xs hi => by obtain ⟨u, h4, h5, -⟩ := h3 i xs hi; exact ⟨u, h4, h5⟩⟩
theorem RowsA.below {w w' : World} {base : Nat} {v : Value} {xss : List (List Int)} (h : RowsA w base v xss) (hb : Below w.heap.size w w') : RowsA w' base v xss := by
  obtain ⟨vs, h1, h2, h3⟩ := h
  exact ⟨vs, h1, AggsAt.below h2 hb, fun i xs hi => by obtain ⟨u, h4, h5, h6⟩ := h3 i xs hi; exact ⟨u, h4, AggsAt.below h5 hb, h6⟩⟩
theorem RowsI.mono {w : World} {base base' : Nat} {v : Value} {xss : List (List Int)} (h : RowsI w base v xss) (hb : base' ≤ base) : RowsI w base' v xss := by
  obtain ⟨vs, h1, h2, h3⟩ := h
  exact ⟨vs, h1, AggsAt.mono h2 hb, fun i xs hi => by obtain ⟨u, h4, h5⟩ := h3 i xs hi; exact ⟨u, h4, AggsAt.mono h5 hb⟩⟩
theorem infoV : (Tryd.prog.info? 22).map (fun i => (i.zero, i.size, i.bytes)) = some (some (.slice none 0 0), 1, 24) := by kernel_rfl
theorem own_apart {w w' : World} {base : Nat} {v u : Value} {xs : List Int} (h : OwnI w base u xs) (hg : w.grownBy w' v.ownBlock) (ha : ∀ k, v.ownBlock = some k → u.ownBlock ≠ some k) : OwnI w' base u xs := by
  refine World.ownsRow.kept h hg ?_
  cases hb : u.ownBlock with
  | none => exact .inl rfl
  | some k => exact .inr (fun e => ha k e.symm hb)
/-- one more, its block beyond the row's -/
theorem RowsA.push {w w' : World} {base B3 : Nat} {v v' u : Value} {xss : List (List Int)} {ys : List Int} (vs : List Value) (h1 : vs.length = xss.length) (_h2 : AggsAt 22 1 encV w base v vs)
    (h3 : ∀ (i : Nat) (xs : List Int), xss[i]? = some xs → ∃ u : Value, vs[i]? = some u ∧ OwnI w base u xs ∧ ∀ k, v.ownBlock = some k → u.ownBlock ≠ some k) (hu : OwnI w B3 u ys) (hB : base ≤ B3) (hv : ∀ k, v.ownBlock = some k → k < B3)
    (hw : w'.ownsRow base 22 1 v' (vs.length + 1) (flat encV vs ++ encV u)) (hg : w.grownBy w' v.ownBlock) (hat : v'.ownBlock = v.ownBlock ∨ v'.ownBlock = some w.heap.size) : RowsA w' base v' (xss ++ [ys]) := by
  have hua : ∀ k, v.ownBlock = some k → u.ownBlock ≠ some k := fun k hk e => by
    have := (World.ownsRow.lt hu k e).1
    have := hv k hk; omega
  have hap : ∀ (u2 : Value) (xs : List Int) (b : Nat), OwnI w b u2 xs → (∀ k, v.ownBlock = some k → u2.ownBlock ≠ some k) → ∀ k, v'.ownBlock = some k → u2.ownBlock ≠ some k := fun u2 xs b ho ha k hk => by
    rcases hat with e | e
    · rw [e] at hk; exact ha k hk
    · rw [e] at hk
      cases hk
      intro e2
      have := (World.ownsRow.lt ho _ e2).2
      omega
  refine ⟨vs ++ [u], by rw [List.length_append, List.length_append, h1]; rfl, AggsAt.push hw, fun i xs hi => ?_⟩
  by_cases hl : i < xss.length
  · rw [List.getElem?_append_left hl] at hi
    obtain ⟨u2, h4, h5, h6⟩ := h3 i xs hi
    exact ⟨u2, by rw [List.getElem?_append_left (by omega)]; exact h4, own_apart h5 hg h6, hap u2 xs base h5 h6⟩
  · have hi2 := (List.getElem?_eq_some_iff.1 hi).1
    rw [List.length_append, List.length_singleton] at hi2
    obtain rfl : i = xss.length := by omega
    rw [List.getElem?_append_right (Nat.le_refl _), Nat.sub_self] at hi
    simp at hi
    subst hi
    exact ⟨u, by rw [List.getElem?_append_right (by omega), h1, Nat.sub_self]; rfl, own_apart (AggsAt.mono hu hB) hg hua, hap u ys B3 hu hua⟩
theorem RowsA.lt {w : World} {base : Nat} {v : Value} {xss : List (List Int)} (h : RowsA w base v xss) : ∀ k, v.ownBlock = some k → base ≤ k ∧ k < w.heap.size := by
  obtain ⟨vs, -, h2, -⟩ := h
  exact fun k hk => World.ownsRow.lt h2 k hk
theorem encV_one (a : Option Addr) (n c : Nat) : ∀ u ∈ encV (.slice a n c), u.oneCell' = true := by intro v hv; simp [encV] at hv; subst hv; rfl
theorem cell_newV (w : World) (g : Nat) (hg : g = w.heap.size) (T : Nat) (v : Value) : ∀ j u, (encV v)[j]? = some u → (w.alloc (.cells #[v] T)).cell? ((⟨g, 0, none⟩ : Addr).add j) = some u := by
  subst hg; exact cell_one (enc := encV) (_k := 1) w _ T v rfl
theorem start_rows (w : World) : RowsI (w.alloc (.cells #[.slice none 0 0] 22)) w.heap.size (.slice (some ⟨w.heap.size, 0, none⟩) 1 1) [[]] := by
  refine ⟨[.slice none 0 0], rfl, ?_, fun i xs hi => ?_⟩
  · have := World.ownsRow_lit (base := w.heap.size) (e := 22) (size := 1) w #[.slice none 0 0] 1 (Nat.le_refl _) (by decide) rfl
    exact this
  · have hi2 := (List.getElem?_eq_some_iff.1 hi).1
    simp at hi2
    subst hi2
    simp at hi
    subst hi
    exact ⟨.slice none 0 0, rfl, AggsAt.nil _ _ _ _ _⟩
set_option maxRecDepth 100000 in
set_option maxHeartbeats 8000000 in
theorem rall_is (a : Option Addr) (N c : Nat) (xs : List Int) (w : World) (h : LIn w a N c xs) (h64 : N ≤ 64) :
    Calls Tryd.prog 18 #[.slice a N c] w (AllPost w xs) := by
  obtain ⟨i0, hi, hz0, hz1, hz2⟩ := info_parts infoI
  obtain ⟨j0, hj, hy0, hy1, hy2⟩ := info_parts infoV
  have HL := Lib.hid (fun wr (b : Below w.heap.size w wr) => h.below b)
  have hn := Lib.hid h.len
  have hcap := h.cap
  have hmax := h.max
  unfold maxLen at hmax
  obtain ⟨V, hV⟩ : ∃ v, countV xs = v := ⟨_, rfl⟩
  obtain ⟨E, hE⟩ : ∃ v, countE xs = v := ⟨_, rfl⟩
  have HV := Lib.hid hV
  have HE := Lib.hid hE
  have CN := Lib.hid (rcount_is a N c xs w h h64)
  clear h hV
  by_cases e0 : E = 0
  · subst e0
    have hall : xs.all mB = true := by
      by_cases h : xs.all mB = true
      · exact h
      · have := (count_no (Bool.eq_false_iff.2 h)).2; omega
    have h8 : (unkL xs).length ≤ 8 := by
      by_cases h : (unkL xs).length ≤ 8
      · exact h
      · have := (count_many hall (by omega)).2; omega
    have HM : Hid (∀ i, i < N → 1 ≤ at0 xs i ∧ at0 xs i ≤ 3) := fun i hi => mB_iff.1 (all_iff.1 hall i (by rw [hn.out]; exact hi))
    have HLEN : Hid (∀ i, i ≤ N → (allN (at0 xs) i).length ≤ 256) := fun i hi => by
      rw [allN_len (fun j hj => HM.out j (by omega))]
      have h1 : (unk (at0 xs) i).length ≤ (unkL xs).length := by
        obtain ⟨t, ht⟩ := unk_mono (at0 xs) (show i ≤ xs.length by rw [hn.out]; exact hi)
        rw [unkL, ht, List.length_append]; omega
      exact pow_small (by omega)
    have HALL := Lib.hid (allN_states xs hall)
    clear hall h8 hE
    go_enter Tryd.func18, Tryd.ntmps18
    go_wp2_with fail
    refine CN.out.mono ?_
    rintro e w1 ⟨rfl, b1⟩
    have B1 := Lib.hid b1
    clear b1
    rw [HV.out, HE.out]
    have R0 := Lib.hid (start_rows w1)
    have bx := below_box w1 (.cells #[.slice none 0 0] 22)
    have B2 := Lib.hid (B1.out.trans (bx.mono B1.out.size))
    have WL := Lib.hid B1.out.size
    clear bx
    go_wp2
    generalize w1.alloc (.cells #[.slice none 0 0] 22) = w2 at *
    obtain ⟨g1, hg1⟩ : ∃ g, w1.heap.size = g := ⟨_, rfl⟩
    rw [hg1] at R0 WL ⊢
    clear hg1
    go_loopw [6, 7] (fun v i wr => ∃ k : Nat, k ≤ N ∧ i = .int .i64 k ∧ Hid (RowsI wr w.heap.size v (allN (at0 xs) k)) ∧ Hid (Below w.heap.size w wr)) (fun _ i _ => N - (intOf i).toNat)
    case atStart => exact ⟨0, Nat.zero_le _, rfl, RowsI.mono R0.out WL.out, B2.out⟩
    case round =>
      clear R0 B2 B1 WL
      obtain ⟨i, hiN, rfl, rows, bel⟩ := hrel
      obtain ⟨V1, rfl⟩ : ∃ V1, V1 = wr := ⟨_, rfl⟩
      obtain ⟨ar, cr, rfl, hcr1, hcr2⟩ := rows.out.length
      obtain ⟨K, hK⟩ : ∃ K, (allN (at0 xs) i).length = K := ⟨_, rfl⟩
      have HK := Lib.hid hK
      rw [hK] at hcr1 ⊢
      have hK256 : K ≤ 256 := by rw [← hK]; exact HLEN.out i hiN
      unfold maxLen at hcr2
      have ROWS : Hid (RowsI V1 w.heap.size (.slice ar K cr) (allN (at0 xs) i)) := by rw [← hK]; exact rows.out
      clear rows hK
      by_cases hlt : i < N
      · go_wp2
        go_loopw [8, 9] (fun v q wq => ∃ k : Nat, k ≤ K ∧ q = .int .i64 k ∧ Hid (RowsA wq V1.heap.size v (((allN (at0 xs) i).take k).flatMap (stpL (at0 xs i)))) ∧ Hid (Below V1.heap.size V1 wq)) (fun _ q _ => K - (intOf q).toNat)
        case atStart => exact ⟨0, Nat.zero_le _, rfl, RowsA.nil _ _, Below.refl _ _⟩
        case round =>
          obtain ⟨k, hkK, rfl, nx, bel2⟩ := hrel
          by_cases hlk : k < K
          · have hkl : k < (allN (at0 xs) i).length := by rw [HK.out]; exact hlk
            obtain ⟨g, b, c2, rfl, -, hgl, rc, lc, -⟩ := ROWS.out.get k hkl
            obtain ⟨s, hs⟩ : ∃ s, (allN (at0 xs) i)[k] = s := ⟨_, rfl⟩
            have hsl : s.length = i := by rw [← hs]; exact allN_el _ (List.getElem_mem hkl)
            rw [hs, hsl] at rc lc
            have HF := Lib.hid (flat_take (x := at0 xs i) hkl)
            rw [hs] at HF
            have hF : (((allN (at0 xs) i).take k).flatMap (stpL (at0 xs i))).length ≤ 512 := by
              have h1 := flat_le (at0 xs i) ((allN (at0 xs) i).take k)
              have h2 := List.length_take_le k (allN (at0 xs) i)
              omega
            obtain ⟨F, hFe⟩ : ∃ F, ((allN (at0 xs) i).take k).flatMap (stpL (at0 xs i)) = F := ⟨_, rfl⟩
            rw [hFe] at nx HF hF
            obtain ⟨gm, om, hae, hgm, hcm⟩ := (HL.out _ bel.out).rin.some (by rw [hn.out]; omega)
            have c0 := cells_i hcm i (by rw [hn.out]; exact hlt)
            have HX := HM.out i hlt
            obtain ⟨x, hx⟩ : ∃ x, at0 xs i = x := ⟨_, rfl⟩
            rw [hx] at c0 HX HF
            have C0 := Lib.hid c0
            have RC := Lib.hid rc
            have LC := Lib.hid lc
            have HFL := Lib.hid hF
            have HXE := Lib.hid hx
            have HSL := Lib.hid hsl
            have HFE := Lib.hid hFe
            subst hae
            clear hs hsl hFe hcm c0 rc lc hkl hx hF
            go_wp2
            go_loopw [8, 10] (fun v q wq => ∃ p : Nat, 1 ≤ p ∧ p ≤ 3 ∧ q = .int .i64 p ∧ Hid (RowsA wq V1.heap.size v (F ++ part x s p)) ∧ Hid (Below V1.heap.size V1 wq)) (fun _ q _ => 3 - (intOf q).toNat)
            case atStart => exact ⟨1, by omega, by omega, rfl, by show RowsA _ _ _ _; rw [part_one, List.append_nil]; exact nx.out, bel2⟩
            case round =>
              clear nx bel2
              obtain ⟨p, hp1, hp3, rfl, nx, bel2⟩ := hrel
              by_cases hlp : p ≤ 2
              · have T1 : decide ((p : Int) ≤ 2) = true := decide_eq_true (by omega)
                have c0 := (bel2.out.cell (p := ⟨gm, om + i, none⟩) hgm).trans C0.out
                have ho := bits_and HX (show 1 ≤ (p : Int) ∧ (p : Int) ≤ 3 by omega)
                have PS := Lib.hid (part_step x s p (by omega) HX)
                obtain ⟨Z, hZ⟩ : ∃ z, andI x p = z := ⟨_, rfl⟩
                rw [hZ] at ho PS
                clear hZ
                by_cases hz : Z = 0
                · have T2 : (Z != 0) = false := by rw [hz]; rfl
                  have NX : Hid (RowsA wr V1.heap.size u8 (F ++ part x s (p + 1))) := by
                    show RowsA _ _ _ _
                    rw [PS.out, if_pos hz]; exact nx.out
                  clear hz nx PS
                  go_wp2
                  go_roundw
                  case rel => exact ⟨p + 1, by omega, by omega, by go_num, NX, bel2⟩
                  case measure => simp [intOf]; omega
                · have T2 : (Z != 0) = true := bne_iff_ne.2 hz
                  have hPS : part x s (p + 1) = part x s p ++ [s ++ [(p : Int)]] := by rw [PS.out, if_neg hz]
                  have PS2 := Lib.hid hPS
                  have r0 := (bel2.out.cell (p := ⟨g, k, none⟩) hgl).trans RC.out
                  have LS := Lib.hid (LC.out.below bel2.out)
                  have LV := Lib.hid nx.out.lt
                  have SZ := Lib.hid bel2.out.size
                  clear hz PS hPS
                  go_wp2_with (first
                    | (at_builtin; refine wpList_append_lin rfl (.tmp 47) rfl rfl LS.out (by omega) ?_; intro a3 c3 w3 own3 gr3; have OWN3 := Lib.hid own3; have GR3 := Lib.hid gr3; clear own3 gr3 r0 c0; have S3 := GR3.out.size
                       have OW3 := Lib.hid (AggsAt.alloc OWN3.out (.cells #[.int .i64 (p : Int)] 3))
                       have B3 := Lib.hid ((Below.refl wr.heap.size wr).grown GR3.out (Nat.le_refl _) (fun k hk => by cases hk))
                       have B4 := Lib.hid (B3.out.trans ((below_box w3 (.cells #[.int .i64 (p : Int)] 3)).mono S3)))
                    | (at_builtin; refine wpList_append_own _ rfl (.tmp 48) (.tmp 50) 22 rfl wr.heap.size 3 i0 _ 1 8 Tryd.underlying22 hi hz0 hz1 hz2 rfl (by decide) (.slice a3 i c3) s.length (flat encI s) rfl OW3.out _ 1 1 (encI (p : Int)) rfl rfl (cell_newI _ _ rfl _ _) (encI_one _) (by rw [HSL.out]; unfold maxLen; omega) (by rw [HSL.out]; omega) (by simp; omega) ?_; intro v4 w4 own4 gr4 hn4
                       have OWN4 : Hid (OwnI w4 wr.heap.size v4 (s ++ [(p : Int)])) := AggsAt.push (by rw [HSL.out] at own4 ⊢; exact own4)
                       have LT3 := Lib.hid (World.ownsRow.lt OW3.out)
                       have B5 := Lib.hid (B4.out.grown gr4 (by simp; omega) (fun q hq => (LT3.out q hq).1))
                       clear own4 gr4 hn4
                       obtain ⟨a4, c4, rfl, -, -⟩ := OWN4.out.lin
                       have hL : (s ++ [(p : Int)]).length = i + 1 := by rw [List.length_append, HSL.out]; rfl
                       rw [hL] at OWN4 ⊢
                       clear hL
                       have S5 := B5.out.size
                       have NX5 := Lib.hid (RowsA.below nx.out B5.out)
                       have bx6 := below_box w4 (.cells #[.slice a4 (i + 1) c4] 22)
                       have NX6 := Lib.hid (RowsA.below NX5.out bx6)
                       have OW6 := Lib.hid (AggsAt.below OWN4.out bx6)
                       have B6 := Lib.hid (B5.out.trans (bx6.mono S5))
                       have hPL := part_le x s p
                       obtain ⟨vs, hvs, hrow, hel⟩ := NX6.out
                       have HVL : Hid (vs.length ≤ 514) := by show _ ≤ _; rw [hvs, List.length_append]; have := HFL.out; omega
                       have HROW := Lib.hid hrow
                       have HVS := Lib.hid hvs
                       have HEL := Lib.hid hel
                       clear bx6 hrow hvs hel hPL)
                    | (at_builtin; go_must (refine wpList_append_own_at _ rfl (.tmp 43) (.tmp 52) 36 rfl V1.heap.size 22 j0 _ 1 24 Tryd.underlying36 hj hy0 hy1 hy2 rfl (by decide) u8 vs.length (flat encV vs) rfl HROW.out _ 1 1 (encV (.slice a4 (i + 1) c4)) rfl rfl (cell_newV _ _ rfl _ _) (encV_one _ _ _) (by have := HVL.out; unfold maxLen; omega) (by have := HVL.out; omega) (by have := SZ.out; simp; omega) ?_); intro v7 w7 own7 gr7 hn7 hat7; have OWN7 := Lib.hid own7; have GR7 := Lib.hid gr7; have HAT := Lib.hid hat7; clear own7 gr7 hn7 hat7))
                  have NX7 : Hid (RowsA w7 V1.heap.size v7 (F ++ part x s (p + 1))) := by
                    show RowsA _ _ _ _
                    rw [PS2.out, ← List.append_assoc]
                    exact RowsA.push vs HVS.out HROW.out HEL.out OW6.out SZ.out (fun k hk => (LV.out k hk).2) OWN7.out GR7.out HAT.out
                  have B7 := Lib.hid ((bel2.out.trans (B6.out.mono SZ.out)).grown GR7.out (by have := B6.out.size; have := SZ.out; omega) (fun k hk => (LV.out k hk).1))
                  clear OWN7 GR7 HAT HROW HEL HVS HVL OW6 NX6 NX5 OWN4 B6 B5 B4 B3 OW3 OWN3 GR3 LT3 S3 S5
                  go_wp2
                  go_roundw
                  case rel => exact ⟨p + 1, by omega, by omega, by go_num, NX7, B7⟩
                  case measure => simp [intOf]; omega
              · obtain rfl : p = 3 := by omega
                have NX : Hid (RowsA wr V1.heap.size u8 (((allN (at0 xs) i).take (k + 1)).flatMap (stpL (at0 xs i)))) := by
                  show RowsA _ _ _ _
                  rw [HXE.out, HF.out, ← part_three]; exact nx.out
                clear nx
                go_wp2
                go_roundw
                case rel => exact ⟨k + 1, by omega, by go_num, NX, bel2⟩
                case measure => simp [intOf]; omega
          · obtain rfl : k = K := by omega
            have NX : Hid (RowsI wr w.heap.size u8 (allN (at0 xs) (i + 1))) := by
              show RowsI _ _ _ _
              have := nx.out
              rw [List.take_of_length_le (by rw [HK.out]; exact Nat.le_refl _)] at this
              rw [allN_succ]
              exact RowsI.mono this.rows bel.out.size
            have NB := Lib.hid (bel.out.trans (bel2.out.mono bel.out.size))
            clear nx bel2
            go_wp2
            go_roundw
            case rel => exact ⟨i + 1, by omega, by go_num, NX, NB⟩
            case measure => simp [intOf]; omega
      · obtain rfl : i = N := by omega
        go_wp2
        go_ret2
        refine ⟨_, all_ret HE.out.symm, ?_, bel.out⟩
        rw [if_pos HE.out]
        have := ROWS.out
        rw [show allN (at0 xs) i = allL xs from by rw [← hn.out]; exact HALL.out] at this
        exact this
  · have T1 : (E != 0) = true := bne_iff_ne.2 e0
    go_enter Tryd.func18, Tryd.ntmps18
    go_wp2_with fail
    refine CN.out.mono ?_
    rintro e w1 ⟨rfl, b1⟩
    have B1 := Lib.hid b1
    clear b1
    rw [HV.out, HE.out]
    go_wp2
    go_ret2
    exact ⟨_, all_ret HE.out.symm, by rw [if_neg (by rw [HE.out]; exact e0)]; exact RowsI.nil _ _, B1.out⟩
end Go.Proofs.YtpobgdolhdlmeaaDoor.msk
